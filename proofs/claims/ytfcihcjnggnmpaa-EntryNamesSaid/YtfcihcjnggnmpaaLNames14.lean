/- The law EntryNames. -/
import Derived.Test.YtfcihcjnggnmpaaLKeeps14
namespace Go.Proofs.Ytfcihcjnggnmpaa
open Go.RowKit Go.Deep

theorem named_ba (s : ByteArray) (w : World) (hs : s.data.toList.length ≤ 140737488351232) :
    Calls Try.prog 25 #[.string s] w fun e w' => e = .returned (.bool (okNm s.data.toList)) ∧ Below w.heap.size w w' := by
  obtain ⟨nm, rfl, hnm⟩ := str_of s
  have e : (ByteArray.mk nm.toArray).data.toList = nm := by simp
  rw [e] at hs ⊢
  exact named_any nm w hs
theorem u8_b {z : Int} (h : (Lit.int .u8 z).wf = true) : 0 ≤ z ∧ z ≤ 255 := by simpa [Lit.wf, IntKind.min, IntKind.max, IntKind.signed, IntKind.bits] using h
theorem okNm_bad {l : List UInt8} {b : UInt8} (h : slB b = true) (hm : b ∈ l) : okNm l = false := by
  unfold okNm
  rw [List.any_eq_true.2 ⟨b, hm, h⟩]
  rfl
theorem okNm_mid (s t : ByteArray) (b : UInt8) (h : slB b = true) : okNm (s ++ ⟨#[b]⟩ ++ t).data.toList = false :=
  okNm_bad h (by simp [ByteArray.data_append])
set_option maxRecDepth 100000 in
set_option maxHeartbeats 4000000 in
theorem law_entryNames (s : ByteArray) (x : Int) (w : World) (hs : s.data.toList.length ≤ 140737488351232) (hx : (Lit.int .u8 x).wf = true) :
    Calls Try.prog 8 #[.string s, .int .u8 x] w fun e w' => e = .returned (.bool true) ∧ Below w.heap.size w w' := by
  obtain ⟨nm, rfl, hnm⟩ := str_of s
  rw [hnm] at hs
  clear hnm
  have hx2 := u8_b hx
  obtain ⟨xn, rfl⟩ := Int.eq_ofNat_of_zero_le hx2.1
  have hsz : (ByteArray.mk nm.toArray).size = nm.length := by simp [ByteArray.size]
  clear hx
  go_enter Try.func8, Try.ntmps8
  by_cases hbig : 60 < nm.length
  · have hbd : (60 : Int) < (nm.length : Int) := by omega
    go_wp2_with fail
    refine (known14_any _).mono ?_
    rintro e w3 ⟨rfl, hb3⟩
    go_wp2
    go_ret
    exact ⟨rfl, hb3⟩
  have hbd : ¬ (60 : Int) < (nm.length : Int) := by omega
  obtain ⟨k, hk⟩ : ∃ k : Nat, k = xn % (nm.length + 1) := ⟨_, rfl⟩
  have hkn : k ≤ nm.length := by have := Nat.mod_lt xn (show 0 < nm.length + 1 by omega); omega
  have hmod : ((xn : Int).tmod ((nm.length : Int) + 1)) = (k : Int) := by
    rw [hk, Int.tmod_eq_emod_of_nonneg (by omega)]; rfl
  clear hk
  go_wp2_with fail
  have HT1 : Kp (∀ W, Calls Try.prog 25 #[.string ((ByteArray.mk nm.toArray).extract 0 k ++ ⟨#[47]⟩ ++ (ByteArray.mk nm.toArray).extract k nm.length)] W fun e w' => e = .returned (.bool false) ∧ Below W.heap.size W w') := ⟨fun W => by
    have h := named_ba ((ByteArray.mk nm.toArray).extract 0 k ++ ⟨#[47]⟩ ++ (ByteArray.mk nm.toArray).extract k nm.length) W (by
      simp only [ByteArray.data_append, Array.toList_append, List.length_append]
      have h1 : ((ByteArray.mk nm.toArray).extract 0 k).data.toList.length ≤ nm.length := by simp [ByteArray.data_extract]; omega
      have h2 : ((ByteArray.mk nm.toArray).extract k nm.length).data.toList.length ≤ nm.length := by simp [ByteArray.data_extract]
      simp only [List.length_singleton]
      omega)
    rwa [okNm_mid _ _ 47 (by decide)] at h⟩
  have HT2 : Kp (∀ W, Calls Try.prog 25 #[.string ((ByteArray.mk nm.toArray).extract 0 k ++ ⟨#[0]⟩ ++ (ByteArray.mk nm.toArray).extract k nm.length)] W fun e w' => e = .returned (.bool false) ∧ Below W.heap.size W w') := ⟨fun W => by
    have h := named_ba ((ByteArray.mk nm.toArray).extract 0 k ++ ⟨#[0]⟩ ++ (ByteArray.mk nm.toArray).extract k nm.length) W (by
      simp only [ByteArray.data_append, Array.toList_append, List.length_append]
      have h1 : ((ByteArray.mk nm.toArray).extract 0 k).data.toList.length ≤ nm.length := by simp [ByteArray.data_extract]; omega
      have h2 : ((ByteArray.mk nm.toArray).extract k nm.length).data.toList.length ≤ nm.length := by simp [ByteArray.data_extract]
      simp only [List.length_singleton]
      omega)
    rwa [okNm_mid _ _ 0 (by decide)] at h⟩
  have HE0 : Kp (∀ W, Calls Try.prog 25 #[.string ⟨#[]⟩] W fun e w' => e = .returned (.bool false) ∧ Below W.heap.size W w') := ⟨fun W => by
    have h := named_any [] W (by decide)
    rwa [show okNm [] = false from by decide] at h⟩
  have HE1 : Kp (∀ W, Calls Try.prog 25 #[.string ⟨#[46]⟩] W fun e w' => e = .returned (.bool false) ∧ Below W.heap.size W w') := ⟨fun W => by
    have h := named_any [46] W (by decide)
    rwa [show okNm [46] = false from by decide] at h⟩
  have HE2 : Kp (∀ W, Calls Try.prog 25 #[.string ⟨#[46, 46]⟩] W fun e w' => e = .returned (.bool false) ∧ Below W.heap.size W w') := ⟨fun W => by
    have h := named_any [46, 46] W (by decide)
    rwa [show okNm [46, 46] = false from by decide] at h⟩
  have HNm : Kp (∀ W, _) := ⟨fun W => named_any nm W hs⟩
  have HLen : Kp _ := ⟨okNm_len nm⟩
  have e2 := eqs_str nm [46]
  have e3 := eqs_str nm [46, 46]
  go_quiet (fail)
  have HB : Kp (Below w.heap.size w (w.drewN nq)) := ⟨below_drewN (Below.refl _ _) _⟩
  obtain ⟨wa, hwa⟩ : ∃ wa, wa = w.drewN nq := ⟨_, rfl⟩
  rw [← hwa] at HB ⊢
  clear hwa
  go_wp2_with fail
  go_quiet (fail)
  replace HB : Kp (Below w.heap.size w (wa.drewN nq)) := ⟨below_drewN HB.out _⟩
  obtain ⟨wb, hwb⟩ : ∃ wb, wb = wa.drewN nq := ⟨_, rfl⟩
  rw [← hwb] at HB ⊢
  clear hwb
  go_wp2_with fail
  refine (HT1.out _).mono ?_
  rintro e w1 ⟨rfl, hb'⟩
  replace HB : Kp _ := ⟨HB.out.trans (hb'.mono HB.out.size)⟩
  clear hb'
  go_wp2_with fail
  refine (HT2.out _).mono ?_
  rintro e w2 ⟨rfl, hb'⟩
  replace HB : Kp _ := ⟨HB.out.trans (hb'.mono HB.out.size)⟩
  clear hb'
  go_wp2_with fail
  refine (HE0.out _).mono ?_
  rintro e w3 ⟨rfl, hb'⟩
  replace HB : Kp _ := ⟨HB.out.trans (hb'.mono HB.out.size)⟩
  clear hb'
  go_wp2_with fail
  refine (HE1.out _).mono ?_
  rintro e w4 ⟨rfl, hb'⟩
  replace HB : Kp _ := ⟨HB.out.trans (hb'.mono HB.out.size)⟩
  clear hb'
  have HWp : Kp _ := ⟨HE2.out w4⟩
  clear HT1 HT2 HE0 HE1 HE2
  by_cases h1 : nm.length < 1
  · have hI1 : (nm.length : Int) < 1 := by omega
    have HOdd : Kp (okNm nm = false) := ⟨by cases h : okNm nm with | false => rfl | true => have := HLen.out h; omega⟩
    go_wp2_with fail
    refine (HWp.out).mono ?_
    rintro e w5 ⟨rfl, hb'⟩
    replace HB : Kp _ := ⟨HB.out.trans (hb'.mono HB.out.size)⟩
    clear hb'
    go_wp2
    go_loopg [8, 9] nm.length (fun gk v8 v9 wr => ∃ j : Nat, j + gk = nm.length ∧ v9 = .int .i64 j ∧ v8 = .bool true ∧ Kp (Below w.heap.size w wr))
    case atStart => exact ⟨0, by omega, rfl, rfl, HB⟩
    case round =>
      obtain ⟨j, hjg, rfl, rfl, HBr⟩ := hrel
      cases gk with
      | zero =>
        have hend : ¬ ((j : Int) < (nm.length : Int)) := by omega
        rw [HOdd.out] at HNm
        go_wp2_with fail
        refine (HNm.out _).mono ?_
        rintro e w7 ⟨rfl, hb'⟩
        have HB7 : Kp _ := ⟨HBr.out.trans (hb'.mono HBr.out.size)⟩
        clear hb'
        go_wp2_with fail
        refine (known14_any _).mono ?_
        rintro e w8 ⟨rfl, hb'⟩
        have HB8 : Kp _ := ⟨HB7.out.trans (hb'.mono HB7.out.size)⟩
        go_wp2
        go_ret
        exact ⟨rfl, HB8.out⟩
      | succ g2 =>
        have hgo : (j : Int) < (nm.length : Int) := by omega
        have hj : j < nm.length := by omega
        go_wp2
        go_roundg g2
        case measure => omega
        case rel => exact ⟨j + 1, by omega, by go_num, rfl, HBr⟩
  have hI1 : ¬ (nm.length : Int) < 1 := by omega
  by_cases h27 : 27 < nm.length
  · have hI2 : (27 : Int) < (nm.length : Int) := by omega
    have HOdd : Kp (okNm nm = false) := ⟨by cases h : okNm nm with | false => rfl | true => have := HLen.out h; omega⟩
    go_wp2_with fail
    refine (HWp.out).mono ?_
    rintro e w5 ⟨rfl, hb'⟩
    replace HB : Kp _ := ⟨HB.out.trans (hb'.mono HB.out.size)⟩
    clear hb'
    go_wp2
    go_loopg [8, 9] nm.length (fun gk v8 v9 wr => ∃ j : Nat, j + gk = nm.length ∧ v9 = .int .i64 j ∧ v8 = .bool true ∧ Kp (Below w.heap.size w wr))
    case atStart => exact ⟨0, by omega, rfl, rfl, HB⟩
    case round =>
      obtain ⟨j, hjg, rfl, rfl, HBr⟩ := hrel
      cases gk with
      | zero =>
        have hend : ¬ ((j : Int) < (nm.length : Int)) := by omega
        rw [HOdd.out] at HNm
        go_wp2_with fail
        refine (HNm.out _).mono ?_
        rintro e w7 ⟨rfl, hb'⟩
        have HB7 : Kp _ := ⟨HBr.out.trans (hb'.mono HBr.out.size)⟩
        clear hb'
        go_wp2_with fail
        refine (known14_any _).mono ?_
        rintro e w8 ⟨rfl, hb'⟩
        have HB8 : Kp _ := ⟨HB7.out.trans (hb'.mono HB7.out.size)⟩
        go_wp2
        go_ret
        exact ⟨rfl, HB8.out⟩
      | succ g2 =>
        have hgo : (j : Int) < (nm.length : Int) := by omega
        have hj : j < nm.length := by omega
        go_wp2
        go_roundg g2
        case measure => omega
        case rel => exact ⟨j + 1, by omega, by go_num, rfl, HBr⟩
  have hI2 : ¬ (27 : Int) < (nm.length : Int) := by omega
  by_cases h2 : nm = [46]
  · have i2 : (nm == [46]) = true := by simpa using h2
    rw [i2] at e2
    have HOdd : Kp (okNm nm = false) := ⟨by rw [h2]; decide⟩
    clear h2 h1 h27
    go_wp2_with fail
    refine (HWp.out).mono ?_
    rintro e w5 ⟨rfl, hb'⟩
    replace HB : Kp _ := ⟨HB.out.trans (hb'.mono HB.out.size)⟩
    clear hb'
    go_wp2
    go_loopg [8, 9] nm.length (fun gk v8 v9 wr => ∃ j : Nat, j + gk = nm.length ∧ v9 = .int .i64 j ∧ v8 = .bool true ∧ Kp (Below w.heap.size w wr))
    case atStart => exact ⟨0, by omega, rfl, rfl, HB⟩
    case round =>
      obtain ⟨j, hjg, rfl, rfl, HBr⟩ := hrel
      cases gk with
      | zero =>
        have hend : ¬ ((j : Int) < (nm.length : Int)) := by omega
        rw [HOdd.out] at HNm
        go_wp2_with fail
        refine (HNm.out _).mono ?_
        rintro e w7 ⟨rfl, hb'⟩
        have HB7 : Kp _ := ⟨HBr.out.trans (hb'.mono HBr.out.size)⟩
        clear hb'
        go_wp2_with fail
        refine (known14_any _).mono ?_
        rintro e w8 ⟨rfl, hb'⟩
        have HB8 : Kp _ := ⟨HB7.out.trans (hb'.mono HB7.out.size)⟩
        go_wp2
        go_ret
        exact ⟨rfl, HB8.out⟩
      | succ g2 =>
        have hgo : (j : Int) < (nm.length : Int) := by omega
        have hj : j < nm.length := by omega
        go_wp2
        go_roundg g2
        case measure => omega
        case rel => exact ⟨j + 1, by omega, by go_num, rfl, HBr⟩
  have i2 : (nm == [46]) = false := by simpa using h2
  rw [i2] at e2
  by_cases h3 : nm = [46, 46]
  · have i3 : (nm == [46, 46]) = true := by simpa using h3
    rw [i3] at e3
    have HOdd : Kp (okNm nm = false) := ⟨by rw [h3]; decide⟩
    clear h3 h1 h27
    go_wp2_with fail
    refine (HWp.out).mono ?_
    rintro e w5 ⟨rfl, hb'⟩
    replace HB : Kp _ := ⟨HB.out.trans (hb'.mono HB.out.size)⟩
    clear hb'
    go_wp2
    go_loopg [8, 9] nm.length (fun gk v8 v9 wr => ∃ j : Nat, j + gk = nm.length ∧ v9 = .int .i64 j ∧ v8 = .bool true ∧ Kp (Below w.heap.size w wr))
    case atStart => exact ⟨0, by omega, rfl, rfl, HB⟩
    case round =>
      obtain ⟨j, hjg, rfl, rfl, HBr⟩ := hrel
      cases gk with
      | zero =>
        have hend : ¬ ((j : Int) < (nm.length : Int)) := by omega
        rw [HOdd.out] at HNm
        go_wp2_with fail
        refine (HNm.out _).mono ?_
        rintro e w7 ⟨rfl, hb'⟩
        have HB7 : Kp _ := ⟨HBr.out.trans (hb'.mono HBr.out.size)⟩
        clear hb'
        go_wp2_with fail
        refine (known14_any _).mono ?_
        rintro e w8 ⟨rfl, hb'⟩
        have HB8 : Kp _ := ⟨HB7.out.trans (hb'.mono HB7.out.size)⟩
        go_wp2
        go_ret
        exact ⟨rfl, HB8.out⟩
      | succ g2 =>
        have hgo : (j : Int) < (nm.length : Int) := by omega
        have hj : j < nm.length := by omega
        go_wp2
        go_roundg g2
        case measure => omega
        case rel => exact ⟨j + 1, by omega, by go_num, rfl, HBr⟩
  have i3 : (nm == [46, 46]) = false := by simpa using h3
  rw [i3] at e3
  have HOdd : Kp (okNm nm = !(nm.any slB)) := ⟨by unfold okNm; rw [show (nm == dotL) = false from i2, show (nm == dotsL) = false from i3, decide_eq_true (by omega : 1 ≤ nm.length), decide_eq_true (by omega : nm.length ≤ 27)]; cases nm.any slB <;> rfl⟩
  go_wp2_with fail
  refine (HWp.out).mono ?_
  rintro e w5 ⟨rfl, hb'⟩
  replace HB : Kp _ := ⟨HB.out.trans (hb'.mono HB.out.size)⟩
  clear hb'
  go_wp2
  go_loopg [8, 9] nm.length (fun gk v8 v9 wr => ∃ j : Nat, j + gk = nm.length ∧ v9 = .int .i64 j ∧ v8 = .bool ((nm.take j).any slB) ∧ Kp (Below w.heap.size w wr))
  case atStart => exact ⟨0, by omega, rfl, by simp; omega, HB⟩
  case round =>
    obtain ⟨j, hjg, rfl, rfl, HBr⟩ := hrel
    cases gk with
    | zero =>
      have hend : ¬ ((j : Int) < (nm.length : Int)) := by omega
      have hjt : nm.take j = nm := List.take_of_length_le (by omega)
      rw [hjt]
      rw [HOdd.out] at HNm
      cases ho : nm.any slB with
      | false =>
        rw [ho] at HNm
        go_wp2_with fail
        refine (HNm.out _).mono ?_
        rintro e w7 ⟨rfl, hb'⟩
        have HB7 : Kp _ := ⟨HBr.out.trans (hb'.mono HBr.out.size)⟩
        clear hb'
        go_wp2_with fail
        refine (known14_any _).mono ?_
        rintro e w8 ⟨rfl, hb'⟩
        have HB8 : Kp _ := ⟨HB7.out.trans (hb'.mono HB7.out.size)⟩
        go_wp2
        go_ret
        exact ⟨rfl, HB8.out⟩
      | true =>
        rw [ho] at HNm
        go_wp2_with fail
        refine (HNm.out _).mono ?_
        rintro e w7 ⟨rfl, hb'⟩
        have HB7 : Kp _ := ⟨HBr.out.trans (hb'.mono HBr.out.size)⟩
        clear hb'
        go_wp2_with fail
        refine (known14_any _).mono ?_
        rintro e w8 ⟨rfl, hb'⟩
        have HB8 : Kp _ := ⟨HB7.out.trans (hb'.mono HB7.out.size)⟩
        go_wp2
        go_ret
        exact ⟨rfl, HB8.out⟩
    | succ g2 =>
      have hgo : (j : Int) < (nm.length : Int) := by omega
      have hj : j < nm.length := by omega
      have HNx := any_take_succ slB nm j hj
      have HI : Kp _ := ⟨slB_iff nm[j]⟩
      cases hc : (nm.take j).any slB with
      | true =>
        rw [hc, Bool.true_or] at HNx
        go_wp2
        go_roundg g2
        case measure => omega
        case rel => exact ⟨j + 1, by omega, by go_num, by rw [HNx], HBr⟩
      | false =>
        rw [hc, Bool.false_or] at HNx
        by_cases q0 : nm[j].toNat = 0
        · have q0' : ((ByteArray.mk nm.toArray)[j]'(by rw [hsz]; exact hj)).toNat = 0 := q0
          have hx : slB nm[j] = true := HI.out.2 (.inl q0)
          rw [hx] at HNx
          clear hx HI q0
          go_wp2
          go_roundg g2
          case measure => omega
          case rel => exact ⟨j + 1, by omega, by go_num, by rw [HNx], HBr⟩
        by_cases q47 : nm[j].toNat = 47
        · have q47' : ((ByteArray.mk nm.toArray)[j]'(by rw [hsz]; exact hj)).toNat = 47 := q47
          have hx : slB nm[j] = true := HI.out.2 (.inr q47)
          rw [hx] at HNx
          clear hx HI q0 q47
          go_wp2
          go_roundg g2
          case measure => omega
          case rel => exact ⟨j + 1, by omega, by go_num, by rw [HNx], HBr⟩
        have hx : slB nm[j] = false := by
          cases h : slB nm[j] with
          | false => rfl
          | true => rcases HI.out.1 h with h | h
                    · exact absurd h q0
                    · exact absurd h q47
        rw [hx] at HNx
        have c0 : ((((ByteArray.mk nm.toArray)[j]'(by rw [hsz]; exact hj)).toNat : Int) == 0) = false := by rw [beq_eq_false_iff_ne]; intro h; apply q0; have h5 : ((nm[j].toNat : Nat) : Int) = 0 := h; omega
        have c47 : ((((ByteArray.mk nm.toArray)[j]'(by rw [hsz]; exact hj)).toNat : Int) == 47) = false := by rw [beq_eq_false_iff_ne]; intro h; apply q47; have h5 : ((nm[j].toNat : Nat) : Int) = 47 := h; omega
        clear hx HI q0 q47
        go_wp2
        go_roundg g2
        case measure => omega
        case rel => exact ⟨j + 1, by omega, by go_num, by rw [HNx], HBr⟩
end Go.Proofs.Ytfcihcjnggnmpaa
