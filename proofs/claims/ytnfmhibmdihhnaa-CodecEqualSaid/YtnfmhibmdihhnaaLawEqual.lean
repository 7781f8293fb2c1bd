/- The walk of CodecEqual. -/
import Derived.Test.YtnfmhibmdihhnaaKnown
namespace Go.Proofs.Ytnfmhibmdihhnaa
open Go.RowKit

/-- one bit of a byte another one -/
def flip8 (b : UInt8) (m : Nat) : UInt8 := b ^^^ UInt8.ofNat (2 ^ m)
theorem flip8_val (b : UInt8) (y : Int) : bits .xor .u8 (b.toNat : Int) (2 ^ y.toNat % 256) = ((flip8 b y.toNat).toNat : Int) := by
  have h1 : (2 : Int) ^ y.toNat % 256 = ((2 ^ y.toNat % 256 : Nat) : Int) := by simp
  rw [h1, u8_xor_nat _ _ (UInt8.toNat_lt _) (Nat.mod_lt _ (by decide))]
  rfl
theorem flip8_ne (b : UInt8) (m : Nat) (h : m < 8) : flip8 b m ≠ b := by
  intro e
  have e2 : flip8 b m ^^^ b = 0 := by rw [e]; simp
  have e3 : flip8 b m ^^^ b = UInt8.ofNat (2 ^ m) := by
    unfold flip8
    rw [UInt8.xor_comm b, UInt8.xor_assoc]; simp
  rw [e3] at e2
  have e4 := congrArg UInt8.toNat e2
  have e5 : (UInt8.ofNat (2 ^ m)).toNat = 2 ^ m % 256 := rfl
  rw [e5] at e4
  have h6 : m = 0 ∨ m = 1 ∨ m = 2 ∨ m = 3 ∨ m = 4 ∨ m = 5 ∨ m = 6 ∨ m = 7 := by omega
  rcases h6 with rfl | rfl | rfl | rfl | rfl | rfl | rfl | rfl <;> simp at e4
theorem cells8_set (l : List UInt8) (k : Nat) (b : UInt8) : (cells8 l).set k (.int .u8 (b.toNat : Int)) = cells8 (l.set k b) := by
  simp [cells8, List.map_set]
theorem set_ne (l : List UInt8) (k : Nat) (b : UInt8) (hk : k < l.length) (h : b ≠ l[k]) : (l == l.set k b) = false := by
  rw [beq_eq_false_iff_ne]
  intro e
  have e2 : l[k] = (l.set k b)[k]'(by simpa using hk) := by
    congr 1
  rw [List.getElem_set_self] at e2
  exact h e2.symm
theorem cut_ne (l : List UInt8) (k : Nat) (hk : k < l.length) : (l == l.take k) = false := by
  rw [beq_eq_false_iff_ne]
  intro e
  have := congrArg List.length e
  simp at this; omega

set_option maxHeartbeats 1000000 in
theorem law_codecEqual (A : Option Addr) (n c : Nat) (l : List UInt8) (x y : Int) (w : World) (ha' : Bs w w.heap.size A n c l ∧ c ≤ 140737488351232) (hx : (Lit.int .u16 x).wf = true) (hy : (Lit.int .u8 y).wf = true) :
    Calls Try.prog 6 #[.slice A n c, .int .u16 x, .int .u8 y] w fun e w' => e = .returned (.bool true) ∧ Below w.heap.size w w' := by
  have ha := ha'.1
  clear ha'
  have hle := ha.le
  have HL := Lib.hid ha.len
  have hxb : 0 ≤ x ∧ x ≤ 65535 := by simpa [Lit.wf, IntKind.min, IntKind.max, IntKind.signed, IntKind.bits] using hx
  have hyb : 0 ≤ y ∧ y ≤ 255 := by simpa [Lit.wf, IntKind.min, IntKind.max, IntKind.signed, IntKind.bits] using hy
  clear hx hy
  go_enter Try.func6, Try.ntmps6
  by_cases hbig : (500 : Int) < n
  · go_wp2_with fail
    refine (known_any _).mono ?_
    rintro e w1 ⟨rfl, hB⟩
    go_wp2
    go_ret
    exact ⟨rfl, hB⟩
  · go_wp2_with fail
    refine (copy_any A n c l _ ha (by omega)).mono ?_
    rintro e w1 ⟨v1, rfl, hown1, hB1⟩
    have H1 := Lib.hid hown1
    have ha1 := (ha.below hB1).more hB1.size
    clear hown1
    go_wp2_with fail
    refine (copy_any A n c l _ ha1 (by omega)).mono ?_
    rintro e w2 ⟨v2, rfl, hown2, hB2⟩
    have H2 := Lib.hid hown2
    clear hown2
    go_wp2_with (at_builtin; refine wpList_app1 el8 rfl _ _ rfl w1.heap.size _ n (cells8 l) rfl H2.out rfl rfl (by simp only [maxLen]; omega) (by omega) hB2.size ?_)
    intro v3 w3 H3 hB3 _ _
    clear H2
    have hB13 : Below w1.heap.size w1 w3 := hB2.trans hB3
    have ha3 := (ha1.below hB13).more hB13.size
    have H13 := Lib.hid (own_below H1.out hB13)
    obtain ⟨A1, c1, rfl, hbs1⟩ := Bs.of_own H13.out
    have h3 : Hid (w3.ownsRow w1.heap.size 5 1 v3 (n + 1) (cells8 (l ++ [0]))) := by rw [cells8_append]; exact H3.out
    obtain ⟨A3, c3, rfl, hbs3⟩ := Bs.of_own h3.out
    have HE1 : Hid ((l == l) = true) := by simp [Hid]
    have HE2 : Hid ((l == l ++ [0]) = false) := by simp [Hid]
    have HE3 : Hid ((l ++ [0] == l) = false) := by simp [Hid]
    clear H3
    go_wp2_with fail
    refine (equal_any _ _ _ _ _ _ _ _ _ ha3 hbs1).mono ?_
    rintro e w4 ⟨rfl, hB4⟩
    rw [HE1.out]
    go_wp2_with fail
    refine (equal_any _ _ _ _ _ _ _ _ _ ((ha3.below hB4).more hB4.size) ((hbs3.below hB4).more hB4.size)).mono ?_
    rintro e w5 ⟨rfl, hB5⟩
    rw [HE2.out]
    have hB35 : Below w3.heap.size w3 w5 := hB4.trans (hB5.mono hB4.size)
    go_wp2_with fail
    refine (equal_any _ _ _ _ _ _ _ _ _ ((hbs3.below hB35).more hB35.size) ((ha3.below hB35).more hB35.size)).mono ?_
    rintro e w6 ⟨rfl, hB6⟩
    rw [HE3.out]
    have hB36 : Below w3.heap.size w3 w6 := hB35.trans (hB6.mono hB35.size)
    have hB06 : Below w.heap.size w w6 := hB1.trans ((hB13.mono hB1.size).trans (hB36.mono (Nat.le_trans hB1.size hB13.size)))
    rcases Nat.eq_zero_or_pos n with h0 | h0
    · subst h0
      go_wp2_with fail
      refine (known_any _).mono ?_
      rintro e w7 ⟨rfl, hB7⟩
      go_wp2
      go_ret
      exact ⟨rfl, hB06.trans (hB7.mono hB06.size)⟩
    · have H16 := Lib.hid (own_below H13.out hB36)
      obtain ⟨g, c1', e1, _, hg1, hg2⟩ := own_some H16.out h0
      injection e1 with e2 _ e3
      subst e2; subst e3
      have ha6 := (ha3.below hB36).more hB36.size
      clear hbs1 hbs3 HE1 HE2 HE3
      obtain ⟨k, hk⟩ : ∃ k : Nat, k = x.toNat % n := ⟨_, rfl⟩
      have hkn : k < n := by rw [hk]; exact Nat.mod_lt _ h0
      have hmod : x % (n : Int) = (k : Int) := by
        have h1 : x = (x.toNat : Int) := by omega
        rw [h1, hk]; rfl
      clear hk
      have hkl : k < l.length := by rw [HL.out]; exact hkn
      have hc6 : w6.cell? ⟨g, k, none⟩ = some (.int .u8 (l[k].toNat : Int)) := by
        rw [H16.out.cellAt k (by omega), cells8_at l k hkl]
      have hf6 := H16.out.frozenAt k
      have HV := Lib.hid (flip8_val l[k] (y % 8))
      have HNE := Lib.hid (set_ne l k (flip8 l[k] (y % 8).toNat) hkl (flip8_ne _ _ (by omega)))
      have HC := Lib.hid (cut_ne l (n - 1) (by rw [HL.out]; omega))
      go_wp2_with fail
      rw [HV.out]
      have hst := (H16.out.stored k (.int .u8 ((flip8 l[k] (y % 8).toNat).toNat : Int))).1
      rw [cells8_set] at hst
      have hB67 : Below w.heap.size w6 (w6.setCell ⟨g, k, none⟩ (.int .u8 ((flip8 l[k] (y % 8).toNat).toNat : Int))) := (Below.refl _ _).setCell hg1 _
      have HA7 := Lib.hid ((ha.below hB06).below hB67)
      generalize flip8 l[k] (y % 8).toNat = b' at *
      obtain ⟨w7, hw7⟩ : ∃ w7, w7 = w6.setCell ⟨g, k, none⟩ (.int .u8 (b'.toNat : Int)) := ⟨_, rfl⟩
      rw [← hw7] at hst hB67 HA7 ⊢
      have hB07 : Below w.heap.size w w7 := hB06.trans hB67
      obtain ⟨A7, c7, e7, hbs7⟩ := Bs.of_own hst
      injection e7 with e8 _ e9
      subst e8; subst e9
      have HB7 := Lib.hid hbs7
      clear hw7 hst hbs7 hmod hc6 hf6
      refine (equal_any _ _ _ _ _ _ _ _ _ (HA7.out.more hB07.size) HB7.out).mono ?_
      rintro e w8 ⟨rfl, hB8⟩
      rw [HNE.out]
      have hB08 : Below w.heap.size w w8 := hB07.trans (hB8.mono hB07.size)
      have HA8 := Lib.hid (HA7.out.below (hB8.mono hB07.size))
      go_wp2_with (refine wpList_cut_h_g (o := ⟨some 65, _, _, _, _, _⟩) el8 rfl _ _ rfl rfl HA8.out _ _ (n - 1) rfl (by omega) (by omega) ?_)
      intro A9 HA9
      have HA9' := Lib.hid HA9
      clear HA9
      go_wp2_with fail
      refine (equal_any _ _ _ _ _ _ _ _ _ (HA8.out.more hB08.size) (HA9'.out.more hB08.size)).mono ?_
      rintro e w9 ⟨rfl, hB9⟩
      rw [HC.out]
      have hB09 : Below w.heap.size w w9 := hB08.trans (hB9.mono hB08.size)
      go_wp2_with fail
      refine (known_any _).mono ?_
      rintro e w10 ⟨rfl, hB10⟩
      go_wp2
      go_ret
      exact ⟨rfl, hB09.trans (hB10.mono hB09.size)⟩
end Go.Proofs.Ytnfmhibmdihhnaa
