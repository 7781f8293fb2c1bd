/- The contract of mac's Tag. -/
import Derived.Test.YtnpodomdagodbaaMacFill
import Derived.Test.YtnpodomdagodbaaWrite
namespace Go.Proofs.Ytnpodomdagodbaa
open Go.RowKit

theorem hmac_inner (key b : List UInt8) : padK (padL (keyL key) 64) 54 64 ++ b = padK (keyL key) 54 64 ++ b := by rw [padK_padL]
theorem take_flat_next (ls : List (List UInt8)) (k : Nat) (h : k < ls.length) : (ls.take (k + 1)).flatten = (ls.take k).flatten ++ ls[k] := by
  rw [List.take_succ_eq_append_getElem h, List.flatten_append]; simp
theorem take_flat_le' (ls : List (List UInt8)) (k : Nat) : (ls.take k).flatten.length ≤ ls.flatten.length := by
  have h : (ls.take k ++ ls.drop k).flatten.length = ls.flatten.length := by rw [List.take_append_drop]
  rw [List.flatten_append, List.length_append] at h
  omega

set_option maxRecDepth 100000 in
set_option maxHeartbeats 4000000 in
theorem tag_any (A : Option Addr) (n c : Nat) (key : List UInt8) (B : Option Addr) (m d : Nat) (ls : List (List UInt8)) (w : World) (ha : Bs w w.heap.size A n c key) (hb : Ls w w.heap.size B m d ls) (hn : n ≤ 524288) (hm : ls.flatten.length ≤ 524000) :
    Calls Try.prog 25 #[.slice A n c, .slice B m d] w fun e w' => e = .returned (.agg (cells8 (hmacL key ls.flatten)).toArray) ∧ Below w.heap.size w w' := by
  have hml := hb.le
  have HA : Kp _ := ⟨ha⟩
  have HB : Kp _ := ⟨hb⟩
  have HM : Kp _ := ⟨hm⟩
  clear ha hb
  go_enter Try.func25, Try.ntmps25
  go_wp2_with (with_reducible refine wpList_alloc (o := ⟨some 4, _, _, _, _, _⟩) tyDig rfl rfl ?_)
  intro w0 hk0 hB0 hs0
  have HA0 : Kp _ := ⟨HA.out.next hB0 (Nat.le_refl _)⟩
  have HB0 : Kp _ := ⟨HB.out.next hB0 (Nat.le_refl _)⟩
  have HK0 : Kp _ := ⟨hk0⟩
  clear hk0 HA HB
  go_wp2_with fail
  refine (fill_any A n c key w0 HA0.out hn).mono ?_
  rintro e w1 ⟨F, fc, rfl, hF1, hB1⟩
  have HF1 : Kp _ := ⟨hF1⟩
  have HB1 : Kp _ := ⟨HB0.out.next hB1 (Nat.le_refl _)⟩
  have HK1 : Kp _ := ⟨HK0.out.below hB1 HK0.out.lt⟩
  have hs1 := hB1.size
  clear hF1 HA0 HB0 HK0
  go_wp2_with fail
  have HV2 : Kp ((w1.alloc (.cells #[.slice F 64 fc] 23)).cell? ⟨w1.heap.size, 0, none⟩ = some (.slice F 64 fc)) := ⟨by rw [World.cell?_alloc_at _ _ _ _ rfl]; rfl⟩
  have hb12 : Below w1.heap.size w1 (w1.alloc (.cells #[.slice F 64 fc] 23)) := (Below.refl _ _).alloc (Nat.le_refl _) _
  have hs2 : (w1.alloc (.cells #[.slice F 64 fc] 23)).heap.size = w1.heap.size + 1 := by simp
  obtain ⟨w2, hw2⟩ : ∃ x, x = w1.alloc (.cells #[.slice F 64 fc] 23) := ⟨_, rfl⟩
  rw [← hw2] at HV2 hb12 hs2 ⊢
  have hlt2 : w1.heap.size < w2.heap.size := by omega
  clear hs2
  refine (new_any w2).mono ?_
  rintro e w3 ⟨rfl, hh3, hB3⟩
  have hs3 := hB3.size
  have hg3 := hh3.lt
  have HH3 : Kp _ := ⟨hh3⟩
  have hb13 : Below w1.heap.size w1 w3 := hb12.trans (hB3.mono (by omega))
  have HV3 : Kp (w3.cell? ⟨w1.heap.size, 0, none⟩ = some (.slice F 64 fc)) := ⟨(hB3.cell (show w1.heap.size < w2.heap.size by omega)).trans HV2.out⟩
  have HF3 : Kp _ := ⟨HF1.out.below hb13⟩
  clear hw2 hb12 hh3 HV2
  go_wp2_with fail
  refine ((padv_any w1.heap.size F fc (padL (keyL key) 64) 54 w3 HV3.out (by omega) (HF3.out.more (by omega))) : Calls _ _ #[.int .u8 54, _] _ _).mono ?_
  rintro e w4 ⟨v4, rfl, hown4, hB4⟩
  obtain ⟨A4, c4, rfl, hbs4⟩ := BsA.of_own (g := w2.heap.size) hown4 hg3
  have HBs4 : Kp _ := ⟨hbs4⟩
  have HH4 : Kp _ := ⟨HH3.out.below hB4 hg3⟩
  have hs4 := hB4.size
  clear hown4 hbs4 HH3
  go_wp2_with fail
  refine (write_any w2.heap.size [] A4 64 c4 _ w4 HH4.out HBs4.out (by rw [padK_length]; simp)).mono ?_
  rintro e w5 ⟨rfl, hh5, hg5⟩
  rw [List.nil_append, padK_padL] at hh5
  have HH5 : Kp _ := ⟨hh5⟩
  have hs5 := hg5.size
  have hB15 : Below w1.heap.size w1 w5 := (hb13.trans (hB4.mono (by omega))).trans (below_grown hg5 (by omega) (by omega))
  have HV5 : Kp (w5.cell? ⟨w1.heap.size, 0, none⟩ = some (.slice F 64 fc)) := ⟨by
    rw [← HV3.out, ← hB4.cell (show w1.heap.size < w3.heap.size by omega)]
    have hv : w5.heap[w1.heap.size]? = w4.heap[w1.heap.size]? := hg5.block w1.heap.size (by omega) (fun e => by have := Option.some.inj e; omega)
    exact World.cell?_of_block (w := w4) hv⟩
  have HLs5 : Kp (LsA w5 w2.heap.size B m d ls) := ⟨LsA.of_ls (HB1.out.below hB15) (by omega) (by omega)⟩
  have hle5 : w2.heap.size < w5.heap.size := by omega
  clear hh5 hg5 HBs4 HH4 HV3 HF3 hB4 hB3 hb13 hg3
  go_wp2_with fail
  go_loopw [9, 21] (fun _ v wr => ∃ i : Nat, i ≤ m ∧ v = .int .i64 i ∧ Kp (HashIs wr w2.heap.size (padK (keyL key) 54 64 ++ (ls.take i).flatten)) ∧ w5.grownBy wr (some w2.heap.size)) (fun _ v _ => m - (intOf v).toNat)
  case atStart => exact ⟨0, Nat.zero_le _, rfl, by simpa using HH5, grown_refl _ _⟩
  case round =>
    clear HH5
    obtain ⟨i, hi, rfl, HHi, hgi⟩ := hrel
    by_cases hlt : i < m
    · have hii : (i : Int) < (m : Int) := by omega
      have hli : i < ls.length := by rw [HLs5.out.len]; exact hlt
      obtain ⟨b, o, A', n', c', rfl, _, hcell, hbs⟩ := (HLs5.out.grown hgi).at hlt
      have HP : Kp _ := ⟨hbs⟩
      have HFl : Kp _ := ⟨take_flat_next ls i hli⟩
      have HFL : Kp ((ls.take (i + 1)).flatten.length ≤ 524000) := ⟨by have := take_flat_le' ls (i + 1); have := HM.out; omega⟩
      generalize ls[i] = P at *
      clear hbs
      go_wp2_with fail
      refine (write_any w2.heap.size _ A' n' c' P _ HHi.out HP.out (by have h := HFL.out; rw [HFl.out, List.length_append] at h; rw [List.length_append, padK_length]; omega)).mono ?_
      rintro e w6 ⟨rfl, hh6, hg6⟩
      rw [List.append_assoc, ← HFl.out] at hh6
      have HH6 : Kp _ := ⟨hh6⟩
      have hg56 := grown_trans hgi hg6
      clear hh6 hg6 HHi hgi HP HFl HFL hcell
      go_wp2
      go_roundw
      case rel => exact ⟨i + 1, by omega, by go_num, HH6, hg56⟩
      case measure => simp [intOf]; omega
    · have HI : Kp (i = m) := ⟨by omega⟩
      have hii : ¬ ((i : Int) < (m : Int)) := by omega
      go_wp2_with fail
      refine (sum_any w2.heap.size _ wr HHi.out (by have h := take_flat_le' ls i; have := HM.out; rw [List.length_append, padK_length]; omega)).mono ?_
      rintro e w6 ⟨rfl, hB6⟩
      have e6 : shaL (padK (keyL key) 54 64 ++ (ls.take i).flatten) = shaL (padK (keyL key) 54 64 ++ ls.flatten) := by
        rw [HI.out, List.take_of_length_le (by rw [HLs5.out.len]; exact Nat.le_refl _)]
      rw [e6]
      have hs6 := hB6.size
      have hsr := hgi.size
      have hBr6 : Below w1.heap.size w1 w6 := (hB15.trans (below_grown hgi (by omega) (by omega))).trans (hB6.mono (by omega))
      have HV6 : Kp (w6.cell? ⟨w1.heap.size, 0, none⟩ = some (.slice F 64 fc)) := ⟨by
        rw [← HV5.out]
        have hv : w6.heap[w1.heap.size]? = w5.heap[w1.heap.size]? := (hB6.block _ (by omega)).trans (hgi.block w1.heap.size (by omega) (fun e => by have := Option.some.inj e; omega))
        exact World.cell?_of_block (w := w5) hv⟩
      have HF6 : Kp (Bs w6 w1.heap.size F 64 fc (padL (keyL key) 64)) := ⟨HF1.out.below hBr6⟩
      have HK6 : Kp _ := ⟨HK1.out.below hBr6 (HK1.out.lt)⟩
      have HDL : Kp ((shaL (padK (keyL key) 54 64 ++ ls.flatten)).length = 32) := ⟨shaL_len _⟩
      have HRes : Kp (hmacL key ls.flatten = shaL (padK (keyL key) 92 64 ++ shaL (padK (keyL key) 54 64 ++ ls.flatten))) := ⟨rfl⟩
      generalize shaL (padK (keyL key) 54 64 ++ ls.flatten) = D at *
      have HD32 : Kp ((cells8 D).length = 32) := ⟨by rw [cells8_length, HDL.out]⟩
      have HZ32 : Kp (zero32.length = 32) := ⟨rfl⟩
      clear e6 HHi hgi hB6 HV5 HLs5 hB15 HF1 HB1 HK1
      go_wp2_with (with_reducible refine wpList_alloc (o := ⟨some 10, _, _, _, _, _⟩) tyDig rfl rfl ?_)
      intro w7 hk7 hb7 hs7
      have HK7 : Kp _ := ⟨hk7⟩
      clear hk7
      go_wp2_with (with_reducible refine wpList_storeAll (o := ⟨none, _, _, _, _, _⟩) (vs := cells8 D) rwDig rfl (.tmp 10) (.tmp 30) rfl rfl HK7.out HZ32.out HD32.out (cells8_one _) rfl ?_)
      intro w8 hk8 ho8
      have hs8 := ho8.size
      have hB68 : Below w6.heap.size w6 w8 := hb7.trans (ho8.below (Nat.le_refl _))
      have hB18 : Below w1.heap.size w1 w8 := hBr6.trans (hB68.mono (by omega))
      have HV8 : Kp (w8.cell? ⟨w1.heap.size, 0, none⟩ = some (.slice F 64 fc)) := ⟨(hB68.cell (show w1.heap.size < w6.heap.size by omega)).trans HV6.out⟩
      have HF8 : Kp (Bs w8 w1.heap.size F 64 fc (padL (keyL key) 64)) := ⟨HF6.out.below' hB68 (by omega)⟩
      have HK8 : Kp _ := ⟨HK6.out.below hB68 (by have := HK6.out.lt; omega)⟩
      have hlt6 : w6.heap.size < w8.heap.size := by omega
      have HBs8 : Kp (Bs w8 w8.heap.size (some ⟨w6.heap.size, 0, none⟩) 32 32 D) := ⟨hk8.bytes hlt6 (by rw [List.drop_zero, List.take_of_length_le (by rw [HD32.out]; exact Nat.le_refl _)]) HDL.out 32 (Nat.le_refl _) (by decide)⟩
      have hlt1 : w1.heap.size < w8.heap.size := by omega
      clear hk8 ho8 HK7 hb7 hs7 hs8 HV6 HF6 HK6 hB68 hBr6
      go_wp2_with fail
      refine wp_region_any (by kernel_rfl) ?_
      change wpAny _ _ _ _ _ _ _ w8.drew
      refine wpAny_take (i := 0) (oi := ⟨some 31, _, _, _, _, _⟩) (v := ?_) rfl (by kernel_rfl) (by kernel_rfl) (by kernel_rfl) (fun _ _ _ h => h) (Or.inl ⟨by rfl, by intro w; go_simp; rfl⟩) ?_
      try simp only [Act.put, List.setIfInBounds_toArray, List.set_cons_zero, List.set_cons_succ]
      refine wpAny_take (i := 2) (oi := ⟨some 33, _, _, _, _, _⟩) (v := ?_) rfl (by kernel_rfl) (by kernel_rfl) (by kernel_rfl) (fun _ _ _ h => h) (Or.inl ⟨by rfl, by intro w; go_simp; rfl⟩) ?_
      try simp only [Act.put, List.setIfInBounds_toArray, List.set_cons_zero, List.set_cons_succ]
      refine wpAny_ready (rs := [1]) (by kernel_rfl) (by simp) ?_
      refine AllReady.cons (o := ⟨some 32, _, _, _, _, _⟩) rfl (fun K hK => ?_) AllReady.nil
      go_simp
      refine ((padv_any w1.heap.size F fc (padL (keyL key) 64) 92 w8.drew HV8.out hlt1 (HF8.out.drew.more (Nat.le_of_lt hlt1))) : Calls _ _ #[.int .u8 92, _] _ _).mono ?_
      rintro e w9 ⟨v9, rfl, hown9, hB9⟩
      rw [padK_padL] at hown9
      obtain ⟨A9, c9, rfl, hbs9⟩ := Bs.of_own hown9
      have HBs9 : Kp _ := ⟨hbs9⟩
      have hB89 : Below w8.heap.size w8 w9 := (Below.refl _ _).drew.trans hB9
      have hs9 := hB89.size
      have HT9 : Kp _ := ⟨(HBs8.out.below hB89).more hs9⟩
      have HK9 : Kp _ := ⟨HK8.out.below hB89 HK8.out.lt⟩
      clear hown9 hbs9 hB9 HBs8 HV8 HF8
      refine hK _ _ ?_
      clear hK K
      try simp only [Act.put, List.setIfInBounds_toArray, List.set_cons_zero, List.set_cons_succ]
      refine wpAny_ready (rs := [3]) (by kernel_rfl) (by simp) ?_
      refine AllReady.cons (o := ⟨some 34, _, _, _, _, _⟩) rfl (fun K hK => ?_) AllReady.nil
      go_simp
      refine hK _ _ ?_
      clear hK K
      try simp only [Act.put, List.setIfInBounds_toArray, List.set_cons_zero, List.set_cons_succ]
      refine wpAny_ready (rs := [4]) (by kernel_rfl) (by simp) ?_
      refine AllReady.cons (o := ⟨some 35, _, _, _, _, _⟩) rfl (fun K hK => ?_) AllReady.nil
      go_simp
      refine (sumf2 A9 64 c9 (padK (keyL key) 92 64) (some ⟨w6.heap.size, 0, none⟩) 32 32 D w9 23 HBs9.out HT9.out (by rw [padK_length, HDL.out]; omega)).mono ?_
      rintro e w10 ⟨rfl, hB10⟩
      rw [← HRes.out]
      have HK10 : Kp _ := ⟨HK9.out.below hB10 (by have := HK9.out.lt; omega)⟩
      have hB110 : Below w1.heap.size w1 w10 := (hB18.trans (hB89.mono (by omega))).trans (hB10.mono (by omega))
      have HLen : Kp ((cells8 (hmacL key ls.flatten)).length = 32) := ⟨by rw [cells8_length]; exact shaL_len _⟩
      clear HBs9 HT9 HRes
      generalize hR : hmacL key ls.flatten = R at *
      have HR : Kp _ := ⟨hR⟩
      clear hR
      refine hK _ _ ?_
      clear hK K
      try simp only [Act.put, List.setIfInBounds_toArray, List.set_cons_zero, List.set_cons_succ]
      refine wpAny_ready (rs := [5]) (by kernel_rfl) (by simp) ?_
      refine AllReady.cons (o := ⟨none, _, _, _, _, _⟩) rfl (fun K hK => ?_) AllReady.nil
      refine step_store rwDig rfl (.tmp 4) (.tmp 35) rfl rfl rfl HK10.out HLen.out (by rw [HZ32.out]; omega) (cells8_one _) ?_
      intro w11 hk11 ho11
      have HK11 : Kp (Blk w11 w.heap.size 27 (cells8 R)) := ⟨by
        have e1 : List.take 0 zero32 ++ cells8 R ++ List.drop (0 + 32) zero32 = cells8 R := by rw [List.drop_of_length_le (by rw [HZ32.out]; omega)]; simp
        rw [e1] at hk11
        exact hk11⟩
      clear hk11
      refine hK _ _ ?_
      clear hK K
      simp only [Act.put]
      refine wpAny_done (by kernel_rfl) ?_ _
      go_wp2
      exact ret_arr rfl rwDig rfl HK11.out HLen.out rfl ⟨by rw [HR.out], ((hB0.trans (hB1.mono (by omega))).trans (hB110.mono (by omega))).trans (ho11.below (Nat.le_refl _))⟩
end Go.Proofs.Ytnpodomdagodbaa
