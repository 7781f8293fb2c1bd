/- The contracts of package bits' load, clip, Get and Set. -/
import Derived.Test.YtgkeckfiacdpkaaDoorBtF
import Derived.Test.YtgkeckfiacdpkaaDoorCutAny
import Derived.Deep.LoopGhost
import Derived.Deep.RegionHeld3
namespace Go.Proofs.YtgkeckfiacdpkaaDoor
open Go.RowKit

/-- bytes as a number, the lowest first -/
def ldN : List UInt8 → Nat
  | [] => 0
  | x :: r => x.toNat + 256 * ldN r
theorem ldN_lt (l : List UInt8) : ldN l < 256 ^ l.length := by
  induction l with
  | nil => decide
  | cons x r ih =>
    have := x.toNat_lt
    show x.toNat + 256 * ldN r < 256 ^ (r.length + 1)
    rw [Nat.pow_succ]
    omega
theorem ldN_snoc (l : List UInt8) (x : UInt8) : ldN (l ++ [x]) = ldN l + 2 ^ (8 * l.length) * x.toNat := by
  induction l with
  | nil => simp [ldN]
  | cons y r ih =>
    show y.toNat + 256 * ldN (r ++ [x]) = y.toNat + 256 * ldN r + 2 ^ (8 * (r.length + 1)) * x.toNat
    rw [ih, show 8 * (r.length + 1) = 8 * r.length + 8 by omega, Nat.pow_add, show (2 : Nat) ^ 8 = 256 from rfl, Nat.mul_add, Nat.mul_comm (2 ^ (8 * r.length)) 256, Nat.mul_assoc, Nat.add_assoc]
theorem ldN_or (l : List UInt8) (x : UInt8) : ldN l ||| 2 ^ (8 * l.length) * x.toNat = ldN (l ++ [x]) := by
  have h := ldN_lt l
  rw [show 256 ^ l.length = 2 ^ (8 * l.length) by rw [Nat.pow_mul]] at h
  rw [ldN_snoc, Nat.add_comm, Nat.two_pow_add_eq_or_of_lt h, Nat.or_comm]
theorem ldN_bit (l : List UInt8) (j : Nat) : (ldN l).testBit j = gb l j := by
  induction l generalizing j with
  | nil => simp [ldN, gb]
  | cons x r ih =>
    show (x.toNat + 256 * ldN r).testBit j = _
    rw [Nat.add_comm, show (256 : Nat) = 2 ^ 8 from rfl, Nat.testBit_two_pow_mul_add _ x.toNat_lt]
    unfold gb
    by_cases h : j < 8
    · rw [if_pos h, show j / 8 = 0 by omega, show j % 8 = j by omega]
      rfl
    · rw [if_neg h, ih, show j / 8 = (j - 8) / 8 + 1 by omega]
      unfold gb
      rw [show (j - 8) % 8 = j % 8 by omega]
      simp
theorem gb_drop (b : List UInt8) (k j : Nat) : gb (b.drop k) j = gb b (8 * k + j) := by
  unfold gb
  rw [List.getD_eq_getElem?_getD, List.getD_eq_getElem?_getD, List.getElem?_drop, show (8 * k + j) / 8 = k + j / 8 by omega, show (8 * k + j) % 8 = j % 8 by omega]
theorem gb_take (b : List UInt8) (m j : Nat) (h : j < 8 * m) : gb (b.take m) j = gb b j := by
  unfold gb
  rw [List.getD_eq_getElem?_getD, List.getD_eq_getElem?_getD, List.getElem?_take, if_pos (by omega)]
theorem load_step (l : List UInt8) (k : Nat) (hk : k < l.length) (h8 : k < 8) (x : UInt8) (hx : x = l[k]) :
    bits .or .u64 ((ldN (l.take k) : Nat) : Int) (IntKind.u64.wrap (IntKind.u64.wrap (x.toNat : Int) * 2 ^ (8 * k))) = ((ldN (l.take (k + 1)) : Nat) : Int) := by
  have hlk : (l.take k).length = k := by simp; omega
  have h1 := ldN_or (l.take k) x
  have h2 := ldN_lt (l.take k)
  have h3 := ldN_lt (l.take (k + 1))
  rw [hlk] at h1 h2
  have e : l.take k ++ [x] = l.take (k + 1) := by rw [List.take_add_one, List.getElem?_eq_getElem hk, hx]; rfl
  rw [e] at h1
  have h4 : (256 : Nat) ^ (k + 1) ≤ 256 ^ 8 := Nat.pow_le_pow_right (by decide) (by omega)
  have h5 : (256 : Nat) ^ k ≤ 256 ^ 8 := Nat.pow_le_pow_right (by decide) (by omega)
  have h6 : (l.take (k + 1)).length = k + 1 := by simp; omega
  rw [h6] at h3
  have h7 : 2 ^ (8 * k) * x.toNat ≤ ldN (l.take (k + 1)) := by rw [← h1]; exact Nat.right_le_or
  have h9 : IntKind.u64.wrap (x.toNat : Int) = (x.toNat : Int) := by have := x.toNat_lt; rw [IntKind.wrap_u64]; omega
  rw [h9, show ((x.toNat : Int) * 2 ^ (8 * k)) = ((2 ^ (8 * k) * x.toNat : Nat) : Int) by rw [Int.natCast_mul, Int.natCast_pow, Int.mul_comm]; rfl, IntKind.wrap_u64,
    show ((2 ^ (8 * k) * x.toNat : Nat) : Int) % 18446744073709551616 = ((2 ^ (8 * k) * x.toNat : Nat) : Int) by generalize 2 ^ (8 * k) * x.toNat = y at *; omega, bits_or_u64_nat _ _ (by omega) (by omega), h1]
set_option maxRecDepth 100000 in
set_option maxHeartbeats 1000000 in
theorem load_any (A : Option Addr) (n c : Nat) (l : List UInt8) (w : World) (B : Nat) (hb : Bs w B A n c l) :
    Calls Tryd.prog 40 #[.slice A n c] w fun e w' => e = .returned (.int .u64 (ldN (l.take 8) : Int)) ∧ w' = w := by
  have HB : Kp _ := ⟨hb⟩
  have hn63 := hb.le
  have HL : Kp (l.length = n) := ⟨hb.len⟩
  have htk : n ≤ 8 → l.take 8 = l.take n := fun h => by rw [List.take_of_length_le (by rw [HL.out]; exact h), List.take_of_length_le (by rw [HL.out]; exact Nat.le_refl _)]
  clear hb
  rcases Nat.lt_or_ge 8 n with h8 | h8
  rotate_left
  rw [htk h8]
  have hnI : (n : Int) ≤ 8 := by omega
  have hmn : n ≤ n := Nat.le_refl _
  clear htk
  rotate_left
  have hnI : 8 < (n : Int) := by omega
  have hmn : 8 ≤ n := by omega
  clear htk
  rotate_left
  -- LOAD
  · go_enter Tryd.func40, Tryd.ntmps40
    go_wp2_with (with_reducible refine wpList_cut_h (o := ⟨some 10, _, _, _, _, _⟩) el8 rfl (.tmp 6) (.tmp 9) rfl rfl HB.out .i64 (n : Int) n rfl rfl hmn ?_)
    intro A' hb'
    have HB' : Kp _ := ⟨hb'⟩
    clear hb' HB
    go_wp2
    go_loopg [3, 12] n (fun gk v3 v12 wr => ∃ k : Nat, k + gk = n ∧ v12 = .int .i64 (k : Int) ∧ v3 = .int .u64 ((ldN (l.take k) : Nat) : Int) ∧ w = wr)
    case atStart => exact ⟨0, by omega, rfl, by simp [ldN], rfl⟩
    case round =>
      obtain ⟨k, hkm, rfl, rfl, rfl⟩ := hrel
      cases gk with
      | zero =>
        have hlt : ¬ ((k : Int) < (n : Int)) := by omega
        have HKe : Kp (k = n) := ⟨by omega⟩
        go_wp2
        go_ret
        exact ⟨by rw [HKe.out]; rfl, rfl⟩
      | succ g2 =>
        have hlt : (k : Int) < (n : Int) := by omega
        have hin : k < n := by omega
        have hil : k < l.length := by rw [HL.out]; omega
        obtain ⟨bb, oo, rfl, hbl, hc⟩ := HB'.out.cell hin
        have hx : (l.take n)[k]'(by rw [HB'.out.len]; exact hin) = l[k] := by simp
        rw [hx] at hc
        obtain ⟨x, hxe⟩ : ∃ x, x = l[k] := ⟨_, rfl⟩
        rw [← hxe] at hc
        have hstep := load_step l k hil (by omega) x hxe
        obtain ⟨q, hq⟩ : ∃ q, q = ldN (l.take k) := ⟨_, rfl⟩
        rw [← hq] at hstep ⊢
        clear hq hxe hx
        go_wp2
        go_roundg g2
        case measure => omega
        case rel => exact ⟨k + 1, by omega, by go_num, rfl, rfl⟩
  · go_enter Tryd.func40, Tryd.ntmps40
    go_wp2_with (with_reducible refine wpList_cut_h (o := ⟨some 10, _, _, _, _, _⟩) el8 rfl (.tmp 6) (.tmp 9) rfl rfl HB.out .i64 8 8 rfl rfl hmn ?_)
    intro A' hb'
    have HB' : Kp _ := ⟨hb'⟩
    clear hb' HB
    go_wp2
    go_loopg [3, 12] 8 (fun gk v3 v12 wr => ∃ k : Nat, k + gk = 8 ∧ v12 = .int .i64 (k : Int) ∧ v3 = .int .u64 ((ldN (l.take k) : Nat) : Int) ∧ w = wr)
    case atStart => exact ⟨0, by omega, rfl, by simp [ldN], rfl⟩
    case round =>
      obtain ⟨k, hkm, rfl, rfl, rfl⟩ := hrel
      cases gk with
      | zero =>
        have hlt : ¬ ((k : Int) < 8) := by omega
        have HKe : Kp (k = 8) := ⟨by omega⟩
        go_wp2
        go_ret
        exact ⟨by rw [HKe.out]; rfl, rfl⟩
      | succ g2 =>
        have hlt : (k : Int) < 8 := by omega
        have hin : k < 8 := by omega
        have hil : k < l.length := by rw [HL.out]; omega
        obtain ⟨bb, oo, rfl, hbl, hc⟩ := HB'.out.cell hin
        have hx : (l.take 8)[k]'(by rw [HB'.out.len]; exact hin) = l[k] := by simp
        rw [hx] at hc
        obtain ⟨x, hxe⟩ : ∃ x, x = l[k] := ⟨_, rfl⟩
        rw [← hxe] at hc
        have hstep := load_step l k hil (by omega) x hxe
        obtain ⟨q, hq⟩ : ∃ q, q = ldN (l.take k) := ⟨_, rfl⟩
        rw [← hq] at hstep ⊢
        clear hq hxe hx
        go_wp2
        go_roundg g2
        case measure => omega
        case rel => exact ⟨k + 1, by omega, by go_num, rfl, rfl⟩
  -- END
theorem ret_tt {P : Program} {a : Act} {w : World} {fn : Func} {R : Ending → World → Prop} {p q : Tmp} {v1 v2 : Value} (hr : fn.results = #[.tmp p, .tmp q]) (hp : a.tmps.getD p undef = v1) (hq : a.tmps.getD q undef = v2) (hd : a.defers = [])
    (h : R (.returned (.tuple #[v1, v2])) w) : bodyPost P fn R .ret a w := by
  have hp' : a.tmps[p]?.getD undef = v1 := by simpa using hp
  have hq' : a.tmps[q]?.getD undef = v2 := by simpa using hq
  exact bodyPost_ret (v := .tuple #[v1, v2]) (by simp only [results, hr]; simp [hp', hq']) hd h
set_option maxRecDepth 100000 in
set_option maxHeartbeats 1000000 in
theorem clip_any (A : Option Addr) (n c : Nat) (f t F T : Int) (w : World) (hn : n ≤ 4294967296) (h63 : t ≤ 9223372036854775807) (hF : (f < 0 ∧ F = 0) ∨ (0 ≤ f ∧ F = f)) (hT : (t ≤ 0 ∧ T = t) ∨ (0 < t ∧ t < 8 * n ∧ T = t) ∨ (0 < t ∧ 8 * n ≤ t ∧ T = 8 * n)) :
    Calls Tryd.prog 38 #[.slice A n c, .int .i64 f, .int .i64 t] w fun e w' => e = .returned (.tuple #[.int .i64 F, .int .i64 T]) ∧ w' = w := by
  rcases hT with ⟨ht, rfl⟩ | ⟨h0, ht, rfl⟩ | ⟨h0, ht, rfl⟩
  · rcases hF with ⟨hf, rfl⟩ | ⟨hf, rfl⟩
    all_goals
      go_enter Tryd.func38, Tryd.ntmps38
      go_wp2
      exact ret_tt rfl rfl rfl rfl ⟨rfl, rfl⟩
  · obtain ⟨tn, rfl⟩ : ∃ tn : Nat, T = tn := ⟨T.toNat, by omega⟩
    have hd : decide (tn < 8 * n) = true := decide_eq_true (by omega)
    rcases hF with ⟨hf, rfl⟩ | ⟨hf, rfl⟩
    all_goals
      go_enter Tryd.func38, Tryd.ntmps38
      go_wp2_with (go_at_call 29; refine (has_nat _ _ _ _ _ (by omega)).mono ?_; rintro e w' ⟨rfl, rfl⟩)
      exact ret_tt rfl rfl rfl rfl ⟨rfl, rfl⟩
  · obtain ⟨tn, rfl⟩ : ∃ tn : Nat, t = tn := ⟨t.toNat, by omega⟩
    have hd : decide (tn < 8 * n) = false := decide_eq_false (by omega)
    rcases hF with ⟨hf, rfl⟩ | ⟨hf, rfl⟩
    all_goals
      go_enter Tryd.func38, Tryd.ntmps38
      go_wp2_with (go_at_call 29; refine (has_nat _ _ _ _ _ (by omega)).mono ?_; rintro e w' ⟨rfl, rfl⟩)
      exact ret_tt rfl rfl rfl rfl ⟨rfl, rfl⟩
end Go.Proofs.YtgkeckfiacdpkaaDoor
