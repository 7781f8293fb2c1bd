/- The contract of Join (with slices.Concat and slices.Grow). -/
import Derived.Test.YtaedlaeflliibaaCPad
import Derived.Test.YtaedlaeflliibaaNums7
import Derived.Lib.AppendZeros
namespace Go.Proofs.Ytaedlaeflliibaa
open Go.RowKit
theorem wpList_grow0 {P : Program} {w : World} {ops : Array Oper} {rest : List Oper} {o : Oper} {a : Act} {Q : Exit → Act → World → Prop} {t e tn : TypeId} {z : Value} {bytes : Nat} {kn : IntKind}
    (E : El P t e z bytes) (htn : P.underlying tn = some (.int kn)) (hgd : o.guard = none) (s x : Operand)
    (ho : o.op = .call { callee := .builtin .append, args := #[s, x], argTypes := #[t, tn] }) (k : IntKind) (n : Nat)
    (hs : a.eval s = .slice none 0 0) (hx : a.eval x = .int k n) (h0 : 0 < n) (h63 : n ≤ maxLen) (h48 : n * bytes ≤ 281474976710656)
    (h : ∀ w' c, n ≤ c → Hid (w'.ownsRow w.heap.size e 1 (.slice (some ⟨w.heap.size, 0, none⟩) 0 c) 0 []) → Below w.heap.size w w' → wpList P ops Q rest (a.put o.dst (.slice (some ⟨w.heap.size, 0, none⟩) n c)) w') :
    wpList P ops Q (o :: rest) a w := by
  obtain ⟨i, hi, hz0, hz1, hz2⟩ := info_parts E.info
  have hr := Lib.run_append_nil_zeros (P := P) w t tn o.type e i z k kn E.ty htn hi hz0 n h0 (by omega) (by simp only [maxLen] at h63; omega) (by rw [hz2]; exact h48)
  refine Lib.wpList_append_run w hgd s x t tn ho _ _ hs hx _ _ hr (h _ _ (grownCap_ge w n 0 e) ?_ ((Below.refl _ _).drew.alloc (Nat.le_refl _) _))
  have hc := grownCap_le_maxLen w n 0 e h63
  have hge := grownCap_ge w n 0 e
  show World.ownsRow _ _ _ _ _ _ _
  refine ⟨rfl, .inr ⟨w.heap.size, _, _, rfl, Nat.le_refl _, heap_alloc_new w.drew _, Nat.zero_le _, hc, ?_, rfl⟩⟩
  simp only [Array.size_append, size_zeroCells, E.one]
  simp
  omega

set_option maxHeartbeats 400000 in
theorem grow0_any (n : Nat) (w : World) (hn : n ≤ 4294967296) :
    Calls Try.prog 60 #[.slice none 0 0, .int .i64 n] w fun e w' => ∃ v, e = .returned v ∧ w'.ownsRow w.heap.size 5 1 v 0 [] ∧ Below w.heap.size w w' := by
  go_enter Try.func60, Try.ntmps60
  rcases Nat.eq_zero_or_pos n with h0 | h0
  · subst h0
    go_wp2
    go_ret
    exact ⟨_, rfl, own_nil _ _ _, Below.refl _ _⟩
  · go_wp2_with (at_builtin; refine wpList_grow0 el8 Try.underlying3 rfl _ _ rfl .i64 n rfl rfl h0 (by simp only [maxLen]; omega) (by omega) ?_)
    intro w' c hc H hb
    go_wp2
    go_ret
    exact ⟨_, rfl, H.out, hb⟩

theorem take_flat (ls : List (List UInt8)) (k : Nat) (h : k < ls.length) : (ls.take (k + 1)).flatten = (ls.take k).flatten ++ ls[k] := by
  rw [List.take_succ_eq_append_getElem h, List.flatten_append]; simp
theorem take_flat_le (ls : List (List UInt8)) (k : Nat) : (ls.take k).flatten.length ≤ ls.flatten.length := by
  conv => rhs; rw [← List.take_append_drop k ls, List.flatten_append, List.length_append]
  omega
theorem take_flat_len (ls : List (List UInt8)) (k : Nat) (h : k < ls.length) : (ls.take (k + 1)).flatten.length = (ls.take k).flatten.length + ls[k].length := by
  rw [take_flat ls k h, List.length_append]

set_option maxHeartbeats 800000 in
theorem concat_any (A : Option Addr) (n c : Nat) (ls : List (List UInt8)) (w : World) (ha : Ls w w.heap.size A n c ls) (hn : ls.flatten.length ≤ 4294967296) :
    Calls Try.prog 58 #[.slice A n c] w fun e w' => ∃ v, e = .returned v ∧ w'.ownsRow w.heap.size 5 1 v ls.flatten.length (cells8 ls.flatten) ∧ Below w.heap.size w w' := by
  have hle := ha.le
  have HL := Lib.hid ha.len
  go_enter Try.func58, Try.ntmps58
  go_wp2
  go_loop [3, 11] (fun s i => ∃ k S : Nat, k ≤ n ∧ i = .int .i64 k ∧ s = .int .i64 S ∧ Hid (S = (ls.take k).flatten.length)) (fun _ i => n - (intOf i).toNat)
  case atStart => exact ⟨0, 0, Nat.zero_le _, rfl, rfl, by simp [Hid]⟩
  case round =>
    obtain ⟨k, S, hk, rfl, rfl, HS⟩ := hrel
    by_cases hlt : k < n
    · obtain ⟨b, o, A', n', c', rfl, _, hc, hbs⟩ := ha.at hlt
      have hkl : k < ls.length := by rw [HL.out]; exact hlt
      have HS2 := Lib.hid (take_flat_len ls k hkl)
      have hb1 : S + n' ≤ 4294967296 := by
        have h1 := take_flat_le ls (k + 1)
        rw [HS2.out, hbs.len, ← HS.out] at h1
        omega
      have HN := Lib.hid hbs.len
      clear hbs
      go_wp2
      go_round
      case rel => exact ⟨k + 1, S + n', by omega, by go_num, by go_num, by show _ = _; rw [HS2.out, HN.out, ← HS.out]⟩
      case measure => simp [intOf]; omega
    · obtain rfl : k = n := by omega
      have HS3 : Hid (S = ls.flatten.length) := by
        have h1 := HS.out
        rw [List.take_of_length_le (by rw [HL.out]; exact Nat.le_refl _)] at h1
        exact h1
      have hS : S ≤ 4294967296 := by rw [HS3.out]; exact hn
      clear HS
      go_wp2_with (go_at_call 60; refine (grow0_any S _ hS).mono ?_; rintro e w1 ⟨v1, rfl, hown, hb1⟩)
      have H1 := Lib.hid hown
      clear hown
      have ha1 := ha.below hb1
      go_wp2
      go_loopw [6, 27] (fun v i wr => ∃ k' : Nat, k' ≤ k ∧ i = .int .i64 k' ∧ Hid (wr.ownsRow w.heap.size 5 1 v (ls.take k').flatten.length (cells8 (ls.take k').flatten)) ∧ Below w.heap.size w wr) (fun _ i _ => k - (intOf i).toNat)
      case atStart => exact ⟨0, Nat.zero_le _, rfl, H1, hb1⟩
      case round =>
        obtain ⟨j, hj, rfl, H, hB⟩ := hrel
        by_cases hlt2 : j < k
        · obtain ⟨b, o, A', n', c', rfl, _, hc, hbs⟩ := (ha.below hB).at hlt2
          have hkl : j < ls.length := by rw [HL.out]; exact hlt2
          have HT := Lib.hid (take_flat ls j hkl)
          have HTL := Lib.hid (take_flat_len ls j hkl)
          have h1 := take_flat_le ls (j + 1)
          rw [HTL.out, hbs.len] at h1
          generalize (ls.take j).flatten = F at *
          go_wp2_with (at_builtin; refine wpList_app el8 rfl _ _ rfl w.heap.size _ F.length (cells8 F) rfl H.out A' n' c' (cells8 ls[j]) rfl ?_ ?_ hbs.news (cells8_one _) ?_ ?_ hB.size ?_)
          · rw [cells8_length, hbs.len]
          · exact fun h => ⟨by have := hbs.nil h; have := hbs.cap; omega, hbs.nil h⟩
          · simp only [maxLen]; omega
          · omega
          intro v' w' hown' hg _
          have hb' := below_of_grown H.out hB.size hg
          have H' : Hid (w'.ownsRow w.heap.size 5 1 v' (ls.take (j + 1)).flatten.length (cells8 (ls.take (j + 1)).flatten)) := by
            rw [HTL.out, HT.out, cells8_append, hbs.len]; exact hown'
          clear hown' hg H
          go_wp2
          go_roundw
          case rel => exact ⟨j + 1, by omega, by go_num, H', hB.trans hb'⟩
          case measure => simp [intOf]; omega
        · obtain rfl : j = k := by omega
          have H' : Hid (wr.ownsRow w.heap.size 5 1 u6 ls.flatten.length (cells8 ls.flatten)) := by
            have h1 := H.out
            rw [List.take_of_length_le (by rw [HL.out]; exact Nat.le_refl _)] at h1
            exact h1
          clear H
          go_wp2
          go_ret
          exact ⟨_, rfl, H'.out, hB⟩

set_option maxHeartbeats 400000 in
theorem join_any (A : Option Addr) (n c : Nat) (ls : List (List UInt8)) (w : World) (ha : Ls w w.heap.size A n c ls) (hn : ls.flatten.length ≤ 4294967296) :
    Calls Try.prog 44 #[.slice A n c] w fun e w' => ∃ v, e = .returned v ∧ w'.ownsRow w.heap.size 5 1 v ls.flatten.length (cells8 ls.flatten) ∧ Below w.heap.size w w' := by
  go_enter Try.func44, Try.ntmps44
  go_wp2_with (go_at_call 58; refine (concat_any A n c ls _ ha hn).mono ?_; rintro e w1 ⟨v1, rfl, hown, hb1⟩)
  have H1 := Lib.hid hown
  clear hown
  go_wp2
  go_ret
  exact ⟨_, rfl, H1.out, hb1⟩
end Go.Proofs.Ytaedlaeflliibaa
