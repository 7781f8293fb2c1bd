/- The contracts of the library's Grow, Concat and Clone of entries. -/
import Derived.Test.YtaedlaeflliibaaEnT
import Derived.Test.YtaedlaeflliibaaHeld
namespace Go.Proofs.Ytaedlaeflliibaa
open Go.RowKit

set_option maxHeartbeats 400000 in
theorem growE_any (n : Nat) (w : World) (hn : n ≤ 5864062014805) :
    Calls Try.prog 56 #[.slice none 0 0, .int .i64 n] w fun e w' => ∃ v, e = .returned v ∧ w'.ownsRow w.heap.size 39 2 v 0 (enCells []) ∧ Below w.heap.size w w' := by
  go_enter Try.func56, Try.ntmps56
  rcases Nat.eq_zero_or_pos n with h0 | h0
  · subst h0
    go_wp2
    go_ret
    exact ⟨_, rfl, own2E_nil _ _ _, Below.refl _ _⟩
  · go_wp2_with (at_builtin; refine wpList_growE rfl _ _ rfl .i64 n rfl rfl h0 (by omega) ?_)
    intro w' c hc H hb
    have HK : Kp _ := ⟨H⟩
    clear H
    go_wp2
    go_ret
    exact ⟨_, rfl, HK.out, hb⟩
/-- rows of entries: a list of them, as a slice of slices -/
structure Enss (w : World) (B : Nat) (A : Option Addr) (n c : Nat) (ls : List (List En)) : Prop where
  len : ls.length = n
  cap : n ≤ c
  max : c ≤ maxLen
  nil : A = none → c = 0
  cells : 0 < n → ∃ b o, A = some ⟨b, o, none⟩ ∧ b < B ∧ ∀ j (h : j < ls.length), ∃ A' n' c', w.cell? ⟨b, o + j, none⟩ = some (.slice A' n' c') ∧ Ens w B A' n' c' ls[j]
section
variable {w w' : World} {B B' : Nat} {A : Option Addr} {n c : Nat} {ls : List (List En)}
theorem Enss.le (h : Enss w B A n c ls) : n ≤ 9223372036854775807 := by have := h.cap; have := h.max; simp only [maxLen] at this; omega
theorem Enss.keep (h : Enss w B A n c ls) (hk : ∀ p : Addr, p.block < B → w'.cell? p = w.cell? p) : Enss w' B A n c ls :=
  ⟨h.len, h.cap, h.max, h.nil, fun h0 => by
    obtain ⟨b, o, hA, hb, hc⟩ := h.cells h0
    refine ⟨b, o, hA, hb, fun j hj => ?_⟩
    obtain ⟨A', n', c', h1, h2⟩ := hc j hj
    exact ⟨A', n', c', (hk _ hb).trans h1, h2.keep hk⟩⟩
theorem Enss.below (h : Enss w B A n c ls) (hb : Below B w w') : Enss w' B A n c ls := h.keep fun _ hp => hb.cell hp
theorem Enss.at (h : Enss w B A n c ls) {i : Nat} (hi : i < n) : ∃ b o A' n' c', A = some ⟨b, o, none⟩ ∧ b < B ∧ w.cell? ⟨b, o + i, none⟩ = some (.slice A' n' c') ∧ Ens w B A' n' c' (ls[i]'(by have := h.len; omega)) := by
  obtain ⟨b, o, hA, hb, hc⟩ := h.cells (by omega)
  obtain ⟨A', n', c', h1, h2⟩ := hc i (by have := h.len; omega)
  exact ⟨b, o, A', n', c', hA, hb, h1, h2⟩
end
theorem flat_next {α : Type} (ls : List (List α)) (k : Nat) (h : k < ls.length) : (ls.take (k + 1)).flatten = (ls.take k).flatten ++ ls[k] := by
  rw [List.take_succ_eq_append_getElem h, List.flatten_append]; simp
theorem flat_len {α : Type} (ls : List (List α)) (k : Nat) (h : k < ls.length) : (ls.take (k + 1)).flatten.length = (ls.take k).flatten.length + ls[k].length := by
  rw [flat_next ls k h, List.length_append]
theorem flat_le {α : Type} (ls : List (List α)) (k : Nat) : (ls.take k).flatten.length ≤ ls.flatten.length := by
  conv => rhs; rw [← List.take_append_drop k ls, List.flatten_append, List.length_append]
  omega
set_option maxHeartbeats 800000 in
theorem concatE_any (A : Option Addr) (n c : Nat) (ls : List (List En)) (w : World) (ha : Enss w w.heap.size A n c ls) (hn : ls.flatten.length ≤ 5864062014805) :
    Calls Try.prog 39 #[.slice A n c] w fun e w' => ∃ v, e = .returned v ∧ w'.ownsRow w.heap.size 39 2 v ls.flatten.length (enCells ls.flatten) ∧ Below w.heap.size w w' := by
  have hle := ha.le
  have HL := Lib.hid ha.len
  go_enter Try.func39, Try.ntmps39
  go_wp2
  go_loop [3, 11] (fun s i => ∃ k S : Nat, k ≤ n ∧ i = .int .i64 k ∧ s = .int .i64 S ∧ Hid (S = (ls.take k).flatten.length)) (fun _ i => n - (intOf i).toNat)
  case atStart => exact ⟨0, 0, Nat.zero_le _, rfl, rfl, by simp [Hid]⟩
  case round =>
    obtain ⟨k, S, hk, rfl, rfl, HS⟩ := hrel
    by_cases hlt : k < n
    · obtain ⟨b, o, A', n', c', rfl, _, hc, hbs⟩ := ha.at hlt
      have hkl : k < ls.length := by rw [HL.out]; exact hlt
      have HS2 := Lib.hid (flat_len ls k hkl)
      have hb1 : S + n' ≤ 5864062014805 := by
        have h1 := flat_le ls (k + 1)
        rw [HS2.out, hbs.len, ← HS.out] at h1
        omega
      have HN := Lib.hid hbs.len
      clear hbs
      go_wp2
      go_round
      case rel => exact ⟨k + 1, S + n', by omega, by go_num, by go_num, by show _ = _; rw [HS2.out, HN.out, ← HS.out]⟩
      case measure => simp [intOf]; omega
    · obtain rfl : k = n := by omega
      have HS3 : Hid (S = ls.flatten.length) := by
        have h1 := HS.out
        rw [List.take_of_length_le (by rw [HL.out]; exact Nat.le_refl _)] at h1
        exact h1
      have hS : S ≤ 5864062014805 := by rw [HS3.out]; exact hn
      clear HS
      go_wp2_with (go_at_call 56; refine (growE_any S _ hS).mono ?_; rintro e w1 ⟨v1, rfl, hown, hb1⟩)
      have H1 := Lib.hid hown
      clear hown
      have ha1 := ha.below hb1
      go_wp2
      go_loopw [6, 27] (fun v i wr => ∃ k' : Nat, k' ≤ k ∧ i = .int .i64 k' ∧ Hid (wr.ownsRow w.heap.size 39 2 v (ls.take k').flatten.length (enCells (ls.take k').flatten)) ∧ Below w.heap.size w wr) (fun _ i _ => k - (intOf i).toNat)
      case atStart => exact ⟨0, Nat.zero_le _, rfl, H1, hb1⟩
      case round =>
        obtain ⟨j, hj, rfl, H, hB⟩ := hrel
        by_cases hlt2 : j < k
        · obtain ⟨b, o, A', n', c', rfl, _, hc, hbs⟩ := (ha.below hB).at hlt2
          have hkl : j < ls.length := by rw [HL.out]; exact hlt2
          have HT := Lib.hid (flat_next ls j hkl)
          have HTL := Lib.hid (flat_len ls j hkl)
          have h1 := flat_le ls (j + 1)
          rw [HTL.out, hbs.len] at h1
          generalize (ls.take j).flatten = F at *
          go_wp2_with (at_builtin; refine wpList_appE rfl _ _ rfl w.heap.size _ F.length F rfl H.out A' n' c' ls[j] rfl hbs.len ?_ hbs.news ?_ hB.size ?_)
          · exact fun h => ⟨by have := hbs.nil h; have := hbs.cap; omega, hbs.nil h⟩
          · omega
          intro v' w' hown' hb' _
          have H' : Hid (w'.ownsRow w.heap.size 39 2 v' (ls.take (j + 1)).flatten.length (enCells (ls.take (j + 1)).flatten)) := by
            rw [HTL.out, HT.out, hbs.len]; exact hown'
          clear hown' H
          go_wp2
          go_roundw
          case rel => exact ⟨j + 1, by omega, by go_num, H', hB.trans hb'⟩
          case measure => simp [intOf]; omega
        · obtain rfl : j = k := by omega
          have H' : Hid (wr.ownsRow w.heap.size 39 2 u6 ls.flatten.length (enCells ls.flatten)) := by
            have h1 := H.out
            rw [List.take_of_length_le (by rw [HL.out]; exact Nat.le_refl _)] at h1
            exact h1
          clear H
          go_wp2
          go_ret
          exact ⟨_, rfl, H'.out, hB⟩
set_option maxHeartbeats 400000 in
theorem cloneE_any (A : Option Addr) (n c : Nat) (l : List En) (w : World) (ha : Ens w w.heap.size A n c l) (hn : n ≤ 5864062014805) :
    Calls Try.prog 40 #[.slice A n c] w fun e w' => ∃ v, e = .returned v ∧ w'.ownsRow w.heap.size 39 2 v n (enCells l) ∧ Below w.heap.size w w' := by
  have HA : Kp _ := ⟨ha⟩
  have HL : Kp _ := ⟨ha.len⟩
  have heq := fun w => Lib.run_eql_slice_nil (P := Try.prog) w 22 39 A n c 0 0 Try.underlying22
  cases hA : A with
  | none =>
    have h0 : n = 0 := by have := ha.nil hA; have := ha.cap; omega
    have hl : l = [] := List.eq_nil_of_length_eq_zero (by have := ha.len; omega)
    have hc : c = 0 := ha.nil hA
    rw [hA] at heq
    clear ha HA HL hA
    subst h0 hl hc
    go_enter Try.func40, Try.ntmps40
    go_wp2
    go_ret
    exact ⟨_, rfl, own2E_nil _ _ _, Below.refl _ _⟩
  | some ad =>
    subst hA
    clear ha
    have hb1 : Below w.heap.size w (w.alloc (.cells #[] 39)) := (Below.refl _ _).alloc (Nat.le_refl _) _
    have HO : Kp ((w.alloc (.cells #[] 39)).ownsRow w.heap.size 39 2 (.slice (some ⟨w.heap.size, 0, none⟩) 0 0) 0 (enCells [])) :=
      ⟨rfl, .inr ⟨w.heap.size, 0, #[], rfl, Nat.le_refl _, by show (w.heap.push _)[w.heap.size]? = _; simp, Nat.le_refl _, Nat.zero_le _, rfl, rfl⟩⟩
    have HA1 : Kp _ := ⟨HA.out.below hb1⟩
    go_enter Try.func40, Try.ntmps40
    go_wp2_with (at_builtin; refine wpList_appE rfl _ _ rfl w.heap.size _ 0 [] rfl HO.out (some ad) n c l rfl HL.out (fun h => by cases h) HA1.out.news (by omega) (by simp) ?_)
    intro v2 w2 hown2 hb2' _
    have hb2 : Below w.heap.size w w2 := hb1.trans hb2'
    have H2 : Kp (w2.ownsRow w.heap.size 39 2 v2 n (enCells l)) := ⟨by simpa using hown2⟩
    clear hown2 hb2'
    go_wp2
    go_ret
    exact ⟨_, rfl, H2.out, hb2⟩
end Go.Proofs.Ytaedlaeflliibaa
