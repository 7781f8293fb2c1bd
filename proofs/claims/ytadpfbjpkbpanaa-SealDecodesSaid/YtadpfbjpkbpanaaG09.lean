/- The contract of Join (with slices.Concat and slices.Grow).
   The contract of the closure that mac's Tag makes: a block's bytes, each with a byte.
   The contract of mac's fill: a block that begins with a key, or with its digest.
   The contracts of package sha's New and Write.
   The contract of mac's Tag. -/
import Derived.Test.YtadpfbjpkbpanaaG08
import Derived.Test.YtadpfbjpkbpanaaG01
import Derived.Lib.AppendZeros
import Derived.Test.YtadpfbjpkbpanaaG03
import Derived.Test.YtadpfbjpkbpanaaG07
namespace Go.Proofs.Ytadpfbjpkbpanaa
open Go.RowKit
theorem wpList_grow0 {P : Program} {w : World} {ops : Array Oper} {rest : List Oper} {o : Oper} {a : Act} {Q : Exit → Act → World → Prop} {t e tn : TypeId} {z : Value} {bytes : Nat} {kn : IntKind}
    (E : El P t e z bytes) (htn : P.underlying tn = some (.int kn)) (hgd : o.guard = none) (s x : Operand)
    (ho : o.op = .call { callee := .builtin .append, args := #[s, x], argTypes := #[t, tn] }) (k : IntKind) (n : Nat)
    (hs : a.eval s = .slice none 0 0) (hx : a.eval x = .int k n) (h0 : 0 < n) (h63 : n ≤ maxLen) (h48 : n * bytes ≤ 281474976710656)
    (h : ∀ w' c, n ≤ c → Hid (w'.ownsRow w.heap.size e 1 (.slice (some ⟨w.heap.size, 0, none⟩) 0 c) 0 []) → Below w.heap.size w w' → wpList P ops Q rest (a.put o.dst (.slice (some ⟨w.heap.size, 0, none⟩) n c)) w') :
    wpList P ops Q (o :: rest) a w := by
  obtain ⟨i, hi, hz0, hz1, hz2⟩ := info_parts E.info
  have hr := Lib.run_append_nil_zeros (P := P) w t tn o.type e i z k kn E.ty htn hi hz0 n h0 (by omega) (by simp only [maxLen] at h63; omega) (by rw [hz2]; exact h48)
  refine Lib.wpList_append_run w hgd s x t tn ho _ _ hs hx _ _ hr (h _ _ (grownCap_ge w n 0 e) ?_ ((Below.refl _ _).drew.alloc (Nat.le_refl _) _))
  have hc := grownCap_le_maxLen w n 0 e h63
  have hge := grownCap_ge w n 0 e
  show World.ownsRow _ _ _ _ _ _ _
  refine ⟨rfl, .inr ⟨w.heap.size, _, _, rfl, Nat.le_refl _, heap_alloc_new w.drew _, Nat.zero_le _, hc, ?_, rfl⟩⟩
  simp only [Array.size_append, size_zeroCells, E.one]
  simp
  omega

set_option maxHeartbeats 400000 in
theorem grow0_any (n : Nat) (w : World) (hn : n ≤ 4294967296) :
    Calls Try.prog 63 #[.slice none 0 0, .int .i64 n] w fun e w' => ∃ v, e = .returned v ∧ w'.ownsRow w.heap.size 5 1 v 0 [] ∧ Below w.heap.size w w' := by
  go_enter Try.func63, Try.ntmps63
  rcases Nat.eq_zero_or_pos n with h0 | h0
  · subst h0
    go_wp2
    go_ret
    exact ⟨_, rfl, own_nil _ _ _, Below.refl _ _⟩
  · go_wp2_with (at_builtin; refine wpList_grow0 el8 Try.underlying3 rfl _ _ rfl .i64 n rfl rfl h0 (by simp only [maxLen]; omega) (by omega) ?_)
    intro w' c hc H hb
    go_wp2
    go_ret
    exact ⟨_, rfl, H.out, hb⟩

set_option maxHeartbeats 800000 in
theorem concat_any (A : Option Addr) (n c : Nat) (ls : List (List UInt8)) (w : World) (ha : Ls w w.heap.size A n c ls) (hn : ls.flatten.length ≤ 4294967296) :
    Calls Try.prog 57 #[.slice A n c] w fun e w' => ∃ v, e = .returned v ∧ w'.ownsRow w.heap.size 5 1 v ls.flatten.length (cells8 ls.flatten) ∧ Below w.heap.size w w' := by
  have hle := ha.le
  have HL := Lib.hid ha.len
  go_enter Try.func57, Try.ntmps57
  go_wp2
  go_loop [3, 11] (fun s i => ∃ k S : Nat, k ≤ n ∧ i = .int .i64 k ∧ s = .int .i64 S ∧ Hid (S = (ls.take k).flatten.length)) (fun _ i => n - (intOf i).toNat)
  case atStart => exact ⟨0, 0, Nat.zero_le _, rfl, rfl, by simp [Hid]⟩
  case round =>
    obtain ⟨k, S, hk, rfl, rfl, HS⟩ := hrel
    by_cases hlt : k < n
    · obtain ⟨b, o, A', n', c', rfl, _, hc, hbs⟩ := ha.at hlt
      have hkl : k < ls.length := by rw [HL.out]; exact hlt
      have HS2 := Lib.hid (take_flat_len ls k hkl)
      have hb1 : S + n' ≤ 4294967296 := by
        have h1 := take_flat_le ls (k + 1)
        rw [HS2.out, hbs.len, ← HS.out] at h1
        omega
      have HN := Lib.hid hbs.len
      clear hbs
      go_wp2
      go_round
      case rel => exact ⟨k + 1, S + n', by omega, by go_num, by go_num, by show _ = _; rw [HS2.out, HN.out, ← HS.out]⟩
      case measure => simp [intOf]; omega
    · obtain rfl : k = n := by omega
      have HS3 : Hid (S = ls.flatten.length) := by
        have h1 := HS.out
        rw [List.take_of_length_le (by rw [HL.out]; exact Nat.le_refl _)] at h1
        exact h1
      have hS : S ≤ 4294967296 := by rw [HS3.out]; exact hn
      clear HS
      go_wp2_with (go_at_call 63; refine (grow0_any S _ hS).mono ?_; rintro e w1 ⟨v1, rfl, hown, hb1⟩)
      have H1 := Lib.hid hown
      clear hown
      have ha1 := ha.below hb1
      go_wp2
      go_loopw [6, 27] (fun v i wr => ∃ k' : Nat, k' ≤ k ∧ i = .int .i64 k' ∧ Hid (wr.ownsRow w.heap.size 5 1 v (ls.take k').flatten.length (cells8 (ls.take k').flatten)) ∧ Below w.heap.size w wr) (fun _ i _ => k - (intOf i).toNat)
      case atStart => exact ⟨0, Nat.zero_le _, rfl, H1, hb1⟩
      case round =>
        obtain ⟨j, hj, rfl, H, hB⟩ := hrel
        by_cases hlt2 : j < k
        · obtain ⟨b, o, A', n', c', rfl, _, hc, hbs⟩ := (ha.below hB).at hlt2
          have hkl : j < ls.length := by rw [HL.out]; exact hlt2
          have HT := Lib.hid (take_flat ls j hkl)
          have HTL := Lib.hid (take_flat_len ls j hkl)
          have h1 := take_flat_le ls (j + 1)
          rw [HTL.out, hbs.len] at h1
          generalize (ls.take j).flatten = F at *
          go_wp2_with (at_builtin; refine wpList_app el8 rfl _ _ rfl w.heap.size _ F.length (cells8 F) rfl H.out A' n' c' (cells8 ls[j]) rfl ?_ ?_ hbs.news (cells8_one _) ?_ ?_ hB.size ?_)
          · rw [cells8_length, hbs.len]
          · exact fun h => ⟨by have := hbs.nil h; have := hbs.cap; omega, hbs.nil h⟩
          · simp only [maxLen]; omega
          · omega
          intro v' w' hown' hg _
          have hb' := below_of_grown H.out hB.size hg
          have H' : Hid (w'.ownsRow w.heap.size 5 1 v' (ls.take (j + 1)).flatten.length (cells8 (ls.take (j + 1)).flatten)) := by
            rw [HTL.out, HT.out, cells8_append, hbs.len]; exact hown'
          clear hown' hg H
          go_wp2
          go_roundw
          case rel => exact ⟨j + 1, by omega, by go_num, H', hB.trans hb'⟩
          case measure => simp [intOf]; omega
        · obtain rfl : j = k := by omega
          have H' : Hid (wr.ownsRow w.heap.size 5 1 u6 ls.flatten.length (cells8 ls.flatten)) := by
            have h1 := H.out
            rw [List.take_of_length_le (by rw [HL.out]; exact Nat.le_refl _)] at h1
            exact h1
          clear H
          go_wp2
          go_ret
          exact ⟨_, rfl, H'.out, hB⟩

set_option maxHeartbeats 400000 in
theorem join_any (A : Option Addr) (n c : Nat) (ls : List (List UInt8)) (w : World) (ha : Ls w w.heap.size A n c ls) (hn : ls.flatten.length ≤ 4294967296) :
    Calls Try.prog 45 #[.slice A n c] w fun e w' => ∃ v, e = .returned v ∧ w'.ownsRow w.heap.size 5 1 v ls.flatten.length (cells8 ls.flatten) ∧ Below w.heap.size w w' := by
  go_enter Try.func45, Try.ntmps45
  go_wp2_with (go_at_call 57; refine (concat_any A n c ls _ ha hn).mono ?_; rintro e w1 ⟨v1, rfl, hown, hb1⟩)
  have H1 := Lib.hid hown
  clear hown
  go_wp2
  go_ret
  exact ⟨_, rfl, H1.out, hb1⟩
end Go.Proofs.Ytadpfbjpkbpanaa

namespace Go.Proofs.Ytadpfbjpkbpanaa
open Go.RowKit

theorem padK_row (fl : List UInt8) (c : UInt8) (k : Nat) (hk : k < 64) :
    (cells8 (padK fl c k ++ List.replicate (64 - k) 0)).set k (.int .u8 ((fl.getD k 0 ^^^ c).toNat : Int)) = cells8 (padK fl c (k + 1) ++ List.replicate (64 - (k + 1)) 0) := by
  have h1 : (padK fl c k).length = k := padK_length _ _ _
  rw [padK_succ, List.append_assoc, cells8_append, cells8_append, List.set_append_right _ _ (by rw [cells8_length]; omega), cells8_length, h1, Nat.sub_self]
  rw [show 64 - k = (64 - (k + 1)) + 1 by omega, List.replicate_succ]
  rfl
/-- the bytes that pad lays behind a key make no difference to it -/
theorem padK_padL (key : List UInt8) (c : UInt8) (n : Nat) : padK (padL key 64) c n = padK key c n := by
  unfold padK
  refine List.map_congr_left fun i _ => ?_
  congr 1
  unfold padL
  simp only [List.getD_eq_getElem?_getD]
  by_cases h : i < key.length
  · rw [List.getElem?_append_left h]
  · rw [List.getElem?_append_right (by omega), List.getElem?_eq_none (show key.length ≤ i by omega), List.getElem?_replicate]
    split <;> rfl

section
attribute [local go_sem] u8_xor
set_option maxHeartbeats 1000000 in
theorem padv_any (g : Nat) (F : Option Addr) (d : Nat) (fl : List UInt8) (c : UInt8) (w : World) (hc : w.cell? ⟨g, 0, none⟩ = some (.slice F 64 d)) (hg : g < w.heap.size) (ha : Bs w w.heap.size F 64 d fl) :
    Calls Try.prog 52 #[.int .u8 c.toNat, .pointer (some ⟨g, 0, none⟩)] w fun e w' => ∃ v, e = .returned v ∧ w'.ownsRow w.heap.size 5 1 v 64 (cells8 (padK fl c 64)) ∧ Below w.heap.size w w' := by
  have HA : Kp _ := ⟨ha⟩
  have HN : Kp _ := ⟨ha.len⟩
  have HC : Kp _ := ⟨hc⟩
  clear ha hc
  go_enter Try.func52, Try.ntmps52
  go_wp2_with (with_reducible refine wpList_mk (o := ⟨some 6, _, _, _, _, _⟩) el8 rfl _ _ rfl w.heap.size _ _ _ _ 64 rfl rfl (by omega) (by omega) (by omega) (by simp only [maxLen]; omega) (Nat.le_refl _) ?_)
  intro w1 hown hg1
  have hb1 : Below w.heap.size w w1 := (Below.refl _ _).grown hg1 (Nat.le_refl _) (by simp)
  have H1 := Lib.hid hown
  clear hg1 hown
  go_wp2
  go_loopw [9] (fun i wr => ∃ k : Nat, k ≤ 64 ∧ i = .int .i64 k ∧ Hid (wr.ownsRow w.heap.size 5 1 (.slice (some ⟨w.heap.size, 0, none⟩) 64 64) 64 (cells8 (padK fl c k ++ List.replicate (64 - k) 0))) ∧ Below w.heap.size w wr) (fun i _ => 64 - (intOf i).toNat)
  case atStart => exact ⟨0, Nat.zero_le _, rfl, by simpa [cells8, padK] using H1, hb1⟩
  case round =>
    obtain ⟨k, hk, rfl, H, hb⟩ := hrel
    by_cases hlt : k < 64
    · have hkl : k < fl.length := by rw [HN.out]; exact hlt
      have hcv : wr.cell? ⟨g, 0, none⟩ = some (.slice F 64 d) := (hb.cell hg).trans HC.out
      obtain ⟨b, o, rfl, _, hcx⟩ := (HA.out.below hb).cell hlt
      have HX : Kp (fl.getD k 0 = fl[k]) := ⟨by simp [List.getD, List.getElem?_eq_getElem hkl]⟩
      have HR := Lib.hid (padK_row fl c k hlt)
      rw [← HX.out] at hcx
      generalize fl.getD k 0 = x at *
      have hcz : (wr.cell? ⟨w.heap.size, k, none⟩).isSome = true := by
        rw [H.out.cellAt k (by omega)]
        simp [cells8, padK]; omega
      have hf := H.out.frozenAt k
      obtain ⟨z, hz⟩ := Option.isSome_iff_exists.1 hcz
      clear hcz
      go_wp2
      go_roundw
      case rel =>
        have hst := H.out.stored k (.int .u8 ((x ^^^ c).toNat : Int))
        refine ⟨k + 1, by omega, by go_num, ?_, hb.setCell (Nat.le_refl _) _⟩
        show World.ownsRow _ _ _ _ _ _ _
        rw [← HR.out]
        exact hst.1
      case measure => simp [intOf]; omega
    · obtain rfl : k = 64 := by omega
      have H2 := H.out
      rw [Nat.sub_self] at H2
      simp only [List.replicate_zero, List.append_nil] at H2
      have H3 := Lib.hid H2
      clear H2
      go_wp2
      go_ret
      exact ⟨_, rfl, H3.out, hb⟩
end
end Go.Proofs.Ytadpfbjpkbpanaa

namespace Go.Proofs.Ytadpfbjpkbpanaa
open Go.RowKit

theorem padL_one (key : List UInt8) (h : key.length ≤ 64) : (padL key 64).length = 64 := by
  rw [padL_length, show ((64 : Int).toNat) = 64 from rfl]; omega
theorem keyL_le (key : List UInt8) : (keyL key).length ≤ 64 := by
  unfold keyL
  split
  · rw [shaL_len]; omega
  · omega

set_option maxRecDepth 100000 in
set_option maxHeartbeats 2000000 in
theorem fill_any (A : Option Addr) (n c : Nat) (key : List UInt8) (w : World) (ha : Bs w w.heap.size A n c key) (hn : n ≤ 524288) :
    Calls Try.prog 51 #[.slice A n c] w fun e w' => ∃ A' c', e = .returned (.slice A' 64 c') ∧ Bs w' w'.heap.size A' 64 c' (padL (keyL key) 64) ∧ Below w.heap.size w w' := by
  have HA : Kp _ := ⟨ha⟩
  have HN : Kp _ := ⟨ha.len⟩
  have HLen : Kp _ := ⟨padL_one (keyL key) (keyL_le key)⟩
  clear ha
  go_enter Try.func51, Try.ntmps51
  by_cases h64 : (64 : Int) < (n : Int)
  · have HK : Kp (keyL key = shaL key) := ⟨by unfold keyL; rw [if_pos (by rw [HN.out]; omega)]⟩
    go_wp2_with fail
    refine (sumf1 A n c key w _ HA.out (by rw [HN.out]; exact hn)).mono ?_
    rintro e w1 ⟨rfl, hB1⟩
    go_wp2_with (with_reducible refine wpList_alloc (o := ⟨some 3, _, _, _, _, _⟩) tyDig rfl rfl ?_)
    intro w2 hk2 hb2 hs2
    have HK2 : Kp _ := ⟨hk2⟩
    have HZ : Kp (zero32.length = 32) := ⟨rfl⟩
    have HL : Kp ((cells8 (shaL key)).length = 32) := ⟨by rw [cells8_length, shaL_len]⟩
    clear hk2
    go_wp2_with (with_reducible refine wpList_storeAll (o := ⟨none, _, _, _, _, _⟩) (vs := cells8 (shaL key)) rwDig rfl (.tmp 3) (.tmp 9) rfl rfl HK2.out HZ.out HL.out (cells8_one _) rfl ?_)
    intro w3 hk3 ho3
    have hs3 := ho3.size
    have H3 : Kp (Bs w3 w3.heap.size (some ⟨w1.heap.size, 0, none⟩) 32 32 (keyL key)) := ⟨by
      rw [HK.out]
      exact hk3.bytes (by omega) (by rw [List.drop_zero, List.take_of_length_le (by rw [HL.out]; exact Nat.le_refl _)]) (shaL_len _) 32 (Nat.le_refl _) (by decide)⟩
    have hB3 : Below w.heap.size w w3 := (hB1.trans (hb2.mono (hB1.size))).trans (ho3.below hB1.size)
    clear HK2 hk3 ho3 hb2 hB1
    go_wp2_with fail
    refine (pad_any _ 32 32 64 _ _ H3.out (by omega) (by omega)).mono ?_
    rintro e w4 ⟨v4, rfl, hown4, hB4⟩
    rw [HLen.out] at hown4
    obtain ⟨A4, c4, rfl, hbs4⟩ := Bs.of_own hown4
    have H4 : Kp _ := ⟨hbs4⟩
    have hB := hB3.trans (hB4.mono hB3.size)
    clear hown4 hbs4 hB3 hB4
    go_wp2
    go_ret
    exact ⟨_, _, rfl, H4.out, hB⟩
  · have HK : Kp (keyL key = key) := ⟨by unfold keyL; rw [if_neg (by rw [HN.out]; omega)]⟩
    go_wp2_with fail
    refine (pad_any A n c 64 _ _ HA.out (by omega) (by omega)).mono ?_
    rintro e w4 ⟨v4, rfl, hown4, hB4⟩
    rw [← HK.out, HLen.out] at hown4
    obtain ⟨A4, c4, rfl, hbs4⟩ := Bs.of_own hown4
    have H4 : Kp _ := ⟨hbs4⟩
    clear hown4 hbs4
    go_wp2
    go_ret
    exact ⟨_, _, rfl, H4.out, hB4⟩
end Go.Proofs.Ytadpfbjpkbpanaa

namespace Go.Proofs.Ytadpfbjpkbpanaa
open Go.RowKit

set_option maxHeartbeats 400000 in
theorem new_any (w : World) :
    Calls Try.prog 53 #[] w fun e w' => e = .returned (.pointer (some ⟨w.heap.size, 0, none⟩)) ∧ HashIs w' w.heap.size [] ∧ Below w.heap.size w w' := by
  go_enter Try.func53, Try.ntmps53
  go_wp2_with (with_reducible refine wpList_alloc (o := ⟨some 1, _, _, _, _, _⟩) tyHash rfl rfl ?_)
  intro w1 hk1 hb1 hs1
  have HK1 : Kp _ := ⟨hk1⟩
  clear hk1 hs1
  go_wp2
  go_ret
  exact ⟨rfl, hash_zero HK1.out, hb1⟩

set_option maxHeartbeats 400000 in
theorem write_any (g : Nat) (M : List UInt8) (A : Option Addr) (n c : Nat) (l : List UInt8) (w : World) (hh : HashIs w g M)
    (hl : BsA w g A n c l) (hn : M.length + l.length ≤ 1048576) :
    Calls Try.prog 54 #[.pointer (some ⟨g, 0, none⟩), .slice A n c] w fun e w' => e = .returned (.tuple #[]) ∧ HashIs w' g (M ++ l) ∧ w.grownBy w' (some g) := by
  have HH : Kp _ := ⟨hh⟩
  have HL : Kp _ := ⟨hl⟩
  clear hh hl
  go_enter Try.func54, Try.ntmps54
  go_wp2_with fail
  refine (tell_any g M _ 1 1 [l] _ (HH.out.below ((Below.refl _ _).alloc (Nat.le_refl _) _) HH.out.lt) (LsA.one _ HL.out HH.out.lt) (by simpa using hn)).mono ?_
  rintro e w2 ⟨rfl, hg2, hgr⟩
  have HG2 : Kp _ := ⟨hg2⟩
  have hgr2 : w.grownBy w2 (some g) := grown_trans (grown_below ((Below.refl _ _).alloc (Nat.le_refl _) _) _) hgr
  clear hg2 hgr
  go_wp2
  go_end0
  obtain ⟨buf, hg⟩ := HG2.out
  exact ⟨rfl, by simpa using hg.is, hgr2⟩

end Go.Proofs.Ytadpfbjpkbpanaa

namespace Go.Proofs.Ytadpfbjpkbpanaa
open Go.RowKit

theorem hmac_inner (key b : List UInt8) : padK (padL (keyL key) 64) 54 64 ++ b = padK (keyL key) 54 64 ++ b := by rw [padK_padL]
theorem take_flat_next (ls : List (List UInt8)) (k : Nat) (h : k < ls.length) : (ls.take (k + 1)).flatten = (ls.take k).flatten ++ ls[k] := by
  rw [List.take_succ_eq_append_getElem h, List.flatten_append]; simp
theorem take_flat_le' (ls : List (List UInt8)) (k : Nat) : (ls.take k).flatten.length ≤ ls.flatten.length := by
  have h : (ls.take k ++ ls.drop k).flatten.length = ls.flatten.length := by rw [List.take_append_drop]
  rw [List.flatten_append, List.length_append] at h
  omega

set_option maxRecDepth 100000 in
set_option maxHeartbeats 4000000 in
theorem tag_any (A : Option Addr) (n c : Nat) (key : List UInt8) (B : Option Addr) (m d : Nat) (ls : List (List UInt8)) (w : World) (ha : Bs w w.heap.size A n c key) (hb : Ls w w.heap.size B m d ls) (hn : n ≤ 524288) (hm : ls.flatten.length ≤ 524000) :
    Calls Try.prog 44 #[.slice A n c, .slice B m d] w fun e w' => e = .returned (.agg (cells8 (hmacL key ls.flatten)).toArray) ∧ Below w.heap.size w w' := by
  have hml := hb.le
  have HA : Kp _ := ⟨ha⟩
  have HB : Kp _ := ⟨hb⟩
  have HM : Kp _ := ⟨hm⟩
  clear ha hb
  go_enter Try.func44, Try.ntmps44
  go_wp2_with (with_reducible refine wpList_alloc (o := ⟨some 4, _, _, _, _, _⟩) tyDig rfl rfl ?_)
  intro w0 hk0 hB0 hs0
  have HA0 : Kp _ := ⟨HA.out.next hB0 (Nat.le_refl _)⟩
  have HB0 : Kp _ := ⟨HB.out.next hB0 (Nat.le_refl _)⟩
  have HK0 : Kp _ := ⟨hk0⟩
  clear hk0 HA HB
  go_wp2_with fail
  refine (fill_any A n c key w0 HA0.out hn).mono ?_
  rintro e w1 ⟨F, fc, rfl, hF1, hB1⟩
  have HF1 : Kp _ := ⟨hF1⟩
  have HB1 : Kp _ := ⟨HB0.out.next hB1 (Nat.le_refl _)⟩
  have HK1 : Kp _ := ⟨HK0.out.below hB1 HK0.out.lt⟩
  have hs1 := hB1.size
  clear hF1 HA0 HB0 HK0
  go_wp2_with fail
  have HV2 : Kp ((w1.alloc (.cells #[.slice F 64 fc] 22)).cell? ⟨w1.heap.size, 0, none⟩ = some (.slice F 64 fc)) := ⟨by rw [World.cell?_alloc_at _ _ _ _ rfl]; rfl⟩
  have hb12 : Below w1.heap.size w1 (w1.alloc (.cells #[.slice F 64 fc] 22)) := (Below.refl _ _).alloc (Nat.le_refl _) _
  have hs2 : (w1.alloc (.cells #[.slice F 64 fc] 22)).heap.size = w1.heap.size + 1 := by simp
  obtain ⟨w2, hw2⟩ : ∃ x, x = w1.alloc (.cells #[.slice F 64 fc] 22) := ⟨_, rfl⟩
  rw [← hw2] at HV2 hb12 hs2 ⊢
  have hlt2 : w1.heap.size < w2.heap.size := by omega
  clear hs2
  refine (new_any w2).mono ?_
  rintro e w3 ⟨rfl, hh3, hB3⟩
  have hs3 := hB3.size
  have hg3 := hh3.lt
  have HH3 : Kp _ := ⟨hh3⟩
  have hb13 : Below w1.heap.size w1 w3 := hb12.trans (hB3.mono (by omega))
  have HV3 : Kp (w3.cell? ⟨w1.heap.size, 0, none⟩ = some (.slice F 64 fc)) := ⟨(hB3.cell (show w1.heap.size < w2.heap.size by omega)).trans HV2.out⟩
  have HF3 : Kp _ := ⟨HF1.out.below hb13⟩
  clear hw2 hb12 hh3 HV2
  go_wp2_with fail
  refine ((padv_any w1.heap.size F fc (padL (keyL key) 64) 54 w3 HV3.out (by omega) (HF3.out.more (by omega))) : Calls _ _ #[.int .u8 54, _] _ _).mono ?_
  rintro e w4 ⟨v4, rfl, hown4, hB4⟩
  obtain ⟨A4, c4, rfl, hbs4⟩ := BsA.of_own (g := w2.heap.size) hown4 hg3
  have HBs4 : Kp _ := ⟨hbs4⟩
  have HH4 : Kp _ := ⟨HH3.out.below hB4 hg3⟩
  have hs4 := hB4.size
  clear hown4 hbs4 HH3
  go_wp2_with fail
  refine (write_any w2.heap.size [] A4 64 c4 _ w4 HH4.out HBs4.out (by rw [padK_length]; simp)).mono ?_
  rintro e w5 ⟨rfl, hh5, hg5⟩
  rw [List.nil_append, padK_padL] at hh5
  have HH5 : Kp _ := ⟨hh5⟩
  have hs5 := hg5.size
  have hB15 : Below w1.heap.size w1 w5 := (hb13.trans (hB4.mono (by omega))).trans (below_grown hg5 (by omega) (by omega))
  have HV5 : Kp (w5.cell? ⟨w1.heap.size, 0, none⟩ = some (.slice F 64 fc)) := ⟨by
    rw [← HV3.out, ← hB4.cell (show w1.heap.size < w3.heap.size by omega)]
    have hv : w5.heap[w1.heap.size]? = w4.heap[w1.heap.size]? := hg5.block w1.heap.size (by omega) (fun e => by have := Option.some.inj e; omega)
    exact World.cell?_of_block (w := w4) hv⟩
  have HLs5 : Kp (LsA w5 w2.heap.size B m d ls) := ⟨LsA.of_ls (HB1.out.below hB15) (by omega) (by omega)⟩
  have hle5 : w2.heap.size < w5.heap.size := by omega
  clear hh5 hg5 HBs4 HH4 HV3 HF3 hB4 hB3 hb13 hg3
  go_wp2_with fail
  go_loopw [9, 21] (fun _ v wr => ∃ i : Nat, i ≤ m ∧ v = .int .i64 i ∧ Kp (HashIs wr w2.heap.size (padK (keyL key) 54 64 ++ (ls.take i).flatten)) ∧ w5.grownBy wr (some w2.heap.size)) (fun _ v _ => m - (intOf v).toNat)
  case atStart => exact ⟨0, Nat.zero_le _, rfl, by simpa using HH5, grown_refl _ _⟩
  case round =>
    clear HH5
    obtain ⟨i, hi, rfl, HHi, hgi⟩ := hrel
    by_cases hlt : i < m
    · have hii : (i : Int) < (m : Int) := by omega
      have hli : i < ls.length := by rw [HLs5.out.len]; exact hlt
      obtain ⟨b, o, A', n', c', rfl, _, hcell, hbs⟩ := (HLs5.out.grown hgi).at hlt
      have HP : Kp _ := ⟨hbs⟩
      have HFl : Kp _ := ⟨take_flat_next ls i hli⟩
      have HFL : Kp ((ls.take (i + 1)).flatten.length ≤ 524000) := ⟨by have := take_flat_le' ls (i + 1); have := HM.out; omega⟩
      generalize ls[i] = P at *
      clear hbs
      go_wp2_with fail
      refine (write_any w2.heap.size _ A' n' c' P _ HHi.out HP.out (by have h := HFL.out; rw [HFl.out, List.length_append] at h; rw [List.length_append, padK_length]; omega)).mono ?_
      rintro e w6 ⟨rfl, hh6, hg6⟩
      rw [List.append_assoc, ← HFl.out] at hh6
      have HH6 : Kp _ := ⟨hh6⟩
      have hg56 := grown_trans hgi hg6
      clear hh6 hg6 HHi hgi HP HFl HFL hcell
      go_wp2
      go_roundw
      case rel => exact ⟨i + 1, by omega, by go_num, HH6, hg56⟩
      case measure => simp [intOf]; omega
    · have HI : Kp (i = m) := ⟨by omega⟩
      have hii : ¬ ((i : Int) < (m : Int)) := by omega
      go_wp2_with fail
      refine (sum_any w2.heap.size _ wr HHi.out (by have h := take_flat_le' ls i; have := HM.out; rw [List.length_append, padK_length]; omega)).mono ?_
      rintro e w6 ⟨rfl, hB6⟩
      have e6 : shaL (padK (keyL key) 54 64 ++ (ls.take i).flatten) = shaL (padK (keyL key) 54 64 ++ ls.flatten) := by
        rw [HI.out, List.take_of_length_le (by rw [HLs5.out.len]; exact Nat.le_refl _)]
      rw [e6]
      have hs6 := hB6.size
      have hsr := hgi.size
      have hBr6 : Below w1.heap.size w1 w6 := (hB15.trans (below_grown hgi (by omega) (by omega))).trans (hB6.mono (by omega))
      have HV6 : Kp (w6.cell? ⟨w1.heap.size, 0, none⟩ = some (.slice F 64 fc)) := ⟨by
        rw [← HV5.out]
        have hv : w6.heap[w1.heap.size]? = w5.heap[w1.heap.size]? := (hB6.block _ (by omega)).trans (hgi.block w1.heap.size (by omega) (fun e => by have := Option.some.inj e; omega))
        exact World.cell?_of_block (w := w5) hv⟩
      have HF6 : Kp (Bs w6 w1.heap.size F 64 fc (padL (keyL key) 64)) := ⟨HF1.out.below hBr6⟩
      have HK6 : Kp _ := ⟨HK1.out.below hBr6 (HK1.out.lt)⟩
      have HDL : Kp ((shaL (padK (keyL key) 54 64 ++ ls.flatten)).length = 32) := ⟨shaL_len _⟩
      have HRes : Kp (hmacL key ls.flatten = shaL (padK (keyL key) 92 64 ++ shaL (padK (keyL key) 54 64 ++ ls.flatten))) := ⟨rfl⟩
      generalize shaL (padK (keyL key) 54 64 ++ ls.flatten) = D at *
      have HD32 : Kp ((cells8 D).length = 32) := ⟨by rw [cells8_length, HDL.out]⟩
      have HZ32 : Kp (zero32.length = 32) := ⟨rfl⟩
      clear e6 HHi hgi hB6 HV5 HLs5 hB15 HF1 HB1 HK1
      go_wp2_with (with_reducible refine wpList_alloc (o := ⟨some 10, _, _, _, _, _⟩) tyDig rfl rfl ?_)
      intro w7 hk7 hb7 hs7
      have HK7 : Kp _ := ⟨hk7⟩
      clear hk7
      go_wp2_with (with_reducible refine wpList_storeAll (o := ⟨none, _, _, _, _, _⟩) (vs := cells8 D) rwDig rfl (.tmp 10) (.tmp 30) rfl rfl HK7.out HZ32.out HD32.out (cells8_one _) rfl ?_)
      intro w8 hk8 ho8
      have hs8 := ho8.size
      have hB68 : Below w6.heap.size w6 w8 := hb7.trans (ho8.below (Nat.le_refl _))
      have hB18 : Below w1.heap.size w1 w8 := hBr6.trans (hB68.mono (by omega))
      have HV8 : Kp (w8.cell? ⟨w1.heap.size, 0, none⟩ = some (.slice F 64 fc)) := ⟨(hB68.cell (show w1.heap.size < w6.heap.size by omega)).trans HV6.out⟩
      have HF8 : Kp (Bs w8 w1.heap.size F 64 fc (padL (keyL key) 64)) := ⟨HF6.out.below' hB68 (by omega)⟩
      have HK8 : Kp _ := ⟨HK6.out.below hB68 (by have := HK6.out.lt; omega)⟩
      have hlt6 : w6.heap.size < w8.heap.size := by omega
      have HBs8 : Kp (Bs w8 w8.heap.size (some ⟨w6.heap.size, 0, none⟩) 32 32 D) := ⟨hk8.bytes hlt6 (by rw [List.drop_zero, List.take_of_length_le (by rw [HD32.out]; exact Nat.le_refl _)]) HDL.out 32 (Nat.le_refl _) (by decide)⟩
      have hlt1 : w1.heap.size < w8.heap.size := by omega
      clear hk8 ho8 HK7 hb7 hs7 hs8 HV6 HF6 HK6 hB68 hBr6
      go_wp2_with fail
      refine wp_region_any (by kernel_rfl) ?_
      change wpAny _ _ _ _ _ _ _ w8.drew
      refine wpAny_take (i := 0) (oi := ⟨some 31, _, _, _, _, _⟩) (v := ?_) rfl (by kernel_rfl) (by kernel_rfl) (by kernel_rfl) (fun _ _ _ h => h) (Or.inl ⟨by rfl, by intro w; go_simp; rfl⟩) ?_
      try simp only [Act.put, List.setIfInBounds_toArray, List.set_cons_zero, List.set_cons_succ]
      refine wpAny_take (i := 2) (oi := ⟨some 33, _, _, _, _, _⟩) (v := ?_) rfl (by kernel_rfl) (by kernel_rfl) (by kernel_rfl) (fun _ _ _ h => h) (Or.inl ⟨by rfl, by intro w; go_simp; rfl⟩) ?_
      try simp only [Act.put, List.setIfInBounds_toArray, List.set_cons_zero, List.set_cons_succ]
      refine wpAny_ready (rs := [1]) (by kernel_rfl) (by simp) ?_
      refine AllReady.cons (o := ⟨some 32, _, _, _, _, _⟩) rfl (fun K hK => ?_) AllReady.nil
      go_simp
      refine ((padv_any w1.heap.size F fc (padL (keyL key) 64) 92 w8.drew HV8.out hlt1 (HF8.out.drew.more (Nat.le_of_lt hlt1))) : Calls _ _ #[.int .u8 92, _] _ _).mono ?_
      rintro e w9 ⟨v9, rfl, hown9, hB9⟩
      rw [padK_padL] at hown9
      obtain ⟨A9, c9, rfl, hbs9⟩ := Bs.of_own hown9
      have HBs9 : Kp _ := ⟨hbs9⟩
      have hB89 : Below w8.heap.size w8 w9 := (Below.refl _ _).drew.trans hB9
      have hs9 := hB89.size
      have HT9 : Kp _ := ⟨(HBs8.out.below hB89).more hs9⟩
      have HK9 : Kp _ := ⟨HK8.out.below hB89 HK8.out.lt⟩
      clear hown9 hbs9 hB9 HBs8 HV8 HF8
      refine hK _ _ ?_
      clear hK K
      try simp only [Act.put, List.setIfInBounds_toArray, List.set_cons_zero, List.set_cons_succ]
      refine wpAny_ready (rs := [3]) (by kernel_rfl) (by simp) ?_
      refine AllReady.cons (o := ⟨some 34, _, _, _, _, _⟩) rfl (fun K hK => ?_) AllReady.nil
      go_simp
      refine hK _ _ ?_
      clear hK K
      try simp only [Act.put, List.setIfInBounds_toArray, List.set_cons_zero, List.set_cons_succ]
      refine wpAny_ready (rs := [4]) (by kernel_rfl) (by simp) ?_
      refine AllReady.cons (o := ⟨some 35, _, _, _, _, _⟩) rfl (fun K hK => ?_) AllReady.nil
      go_simp
      refine (sumf2 A9 64 c9 (padK (keyL key) 92 64) (some ⟨w6.heap.size, 0, none⟩) 32 32 D w9 22 HBs9.out HT9.out (by rw [padK_length, HDL.out]; omega)).mono ?_
      rintro e w10 ⟨rfl, hB10⟩
      rw [← HRes.out]
      have HK10 : Kp _ := ⟨HK9.out.below hB10 (by have := HK9.out.lt; omega)⟩
      have hB110 : Below w1.heap.size w1 w10 := (hB18.trans (hB89.mono (by omega))).trans (hB10.mono (by omega))
      have HLen : Kp ((cells8 (hmacL key ls.flatten)).length = 32) := ⟨by rw [cells8_length]; exact shaL_len _⟩
      clear HBs9 HT9 HRes
      generalize hR : hmacL key ls.flatten = R at *
      have HR : Kp _ := ⟨hR⟩
      clear hR
      refine hK _ _ ?_
      clear hK K
      try simp only [Act.put, List.setIfInBounds_toArray, List.set_cons_zero, List.set_cons_succ]
      refine wpAny_ready (rs := [5]) (by kernel_rfl) (by simp) ?_
      refine AllReady.cons (o := ⟨none, _, _, _, _, _⟩) rfl (fun K hK => ?_) AllReady.nil
      refine step_store rwDig rfl (.tmp 4) (.tmp 35) rfl rfl rfl HK10.out HLen.out (by rw [HZ32.out]; omega) (cells8_one _) ?_
      intro w11 hk11 ho11
      have HK11 : Kp (Blk w11 w.heap.size 57 (cells8 R)) := ⟨by
        have e1 : List.take 0 zero32 ++ cells8 R ++ List.drop (0 + 32) zero32 = cells8 R := by rw [List.drop_of_length_le (by rw [HZ32.out]; omega)]; simp
        rw [e1] at hk11
        exact hk11⟩
      clear hk11
      refine hK _ _ ?_
      clear hK K
      simp only [Act.put]
      refine wpAny_done (by kernel_rfl) ?_ _
      go_wp2
      exact ret_arr rfl rwDig rfl HK11.out HLen.out rfl ⟨by rw [HR.out], ((hB0.trans (hB1.mono (by omega))).trans (hB110.mono (by omega))).trans (ho11.below (Nat.le_refl _))⟩
end Go.Proofs.Ytadpfbjpkbpanaa
