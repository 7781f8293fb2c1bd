/- What the chapter's example fixes; Some of both in one form. -/
import Derived.Test.YtgkeckfiacdpkaaDoorBtU
import Derived.Test.YtgkeckfiacdpkaaDoorLit
import Derived.Test.YtgkeckfiacdpkaaDoorSame
import Derived.Test.YtgkeckfiacdpkaaDoorCop
namespace Go.Proofs.YtgkeckfiacdpkaaDoor
open Go.RowKit Go.Shelf

theorem u16_b {z : Int} (h : (Lit.int .u16 z).wf = true) : 0 ≤ z ∧ z ≤ 65535 := by simpa [Lit.wf, IntKind.min, IntKind.max, IntKind.signed, IntKind.bits] using h
theorem u8_b {z : Int} (h : (Lit.int .u8 z).wf = true) : 0 ≤ z ∧ z ≤ 255 := by simpa [Lit.wf, IntKind.min, IntKind.max, IntKind.signed, IntKind.bits] using h
theorem i64_b {z : Int} (h : (Lit.int .i64 z).wf = true) : -9223372036854775808 ≤ z ∧ z ≤ 9223372036854775807 := by simpa [Lit.wf, IntKind.min, IntKind.max, IntKind.signed, IntKind.bits] using h
def resL (L : List Nat) (q : Nat) : List Nat := if q ≤ L.length then L.take q else []
def resZ (L : List Nat) (q : Nat) : Int := if q ≤ L.length then 0 else 12
theorem refsome_all (A : Option Addr) (n c : Nat) (b : List UInt8) (q f t : Int) (w : World) (hb : Bs w w.heap.size A n c b) (hn : n ≤ 4294967296) :
    Calls Tryd.prog 11 #[.slice A n c, .int .i64 q, .int .i64 f, .int .i64 t] w fun e w' => ∃ A' m' c', e = .returned (.tuple #[.slice A' m' c', .int .i64 (resZ (freeL b f.toNat (hiN n t)) q.toNat)]) ∧ Zs w' w'.heap.size .i64 A' m' c' (intsL (resL (freeL b f.toNat (hiN n t)) q.toNat)) ∧ Below w.heap.size w w' := by
  refine (refsome_any A n c b q f t w hb hn).mono ?_
  rintro e w' ⟨A', m', c', z, l, h1, h2, h3, ⟨h4, rfl, rfl⟩ | ⟨h4, rfl, rfl⟩⟩
  · refine ⟨A', m', c', ?_, ?_, h3⟩
    · unfold resZ; rw [if_pos h4]; exact h1
    · unfold resL; rw [if_pos h4]; exact h2
  · refine ⟨A', m', c', ?_, ?_, h3⟩
    · unfold resZ; rw [if_neg (by omega)]; exact h1
    · unfold resL; rw [if_neg (by omega)]; exact h2
theorem some_all (A : Option Addr) (n c : Nat) (b : List UInt8) (q f t : Int) (w : World) (h0 : 0 < w.heap.size) (hT : TabD w) (hb : Bs w w.heap.size A n c b) (hn : n ≤ 4294967296) (hf : f ≤ 9223372036854775807) (ht : t ≤ 9223372036854775807) (hq63 : q ≤ 9223372036854775807) :
    Calls Tryd.prog 10 #[.slice A n c, .int .i64 q, .int .i64 f, .int .i64 t] w fun e w' => ∃ A' m' c', e = .returned (.tuple #[.slice A' m' c', .int .i64 (resZ (freeL b f.toNat (hiN n t)) q.toNat)]) ∧ Zs w' w'.heap.size .i64 A' m' c' (intsL (resL (freeL b f.toNat (hiN n t)) q.toNat)) ∧ Below w.heap.size w w' := by
  by_cases hq : q ≤ 0
  · refine (some_zero A n c q f t w hq).mono ?_
    rintro e w' ⟨rfl, h3⟩
    refine ⟨none, 0, 0, ?_, ?_, h3⟩
    · unfold resZ; rw [if_pos (by omega)]
    · unfold resL; rw [if_pos (by omega), show q.toNat = 0 by omega]; exact zs_none _ _ _
  · obtain ⟨k, rfl⟩ : ∃ k : Nat, q = k := ⟨q.toNat, by omega⟩
    rw [show ((k : Int)).toNat = k by omega]
    by_cases hk : k ≤ (freeL b f.toNat (hiN n t)).length
    · refine (some_any A n c b k f t w h0 hT hb hn hf ht (by omega) hk).mono ?_
      rintro e w' ⟨A', c', h1, h2, h3⟩
      refine ⟨A', k, c', ?_, ?_, h3⟩
      · unfold resZ; rw [if_pos hk]; exact h1
      · unfold resL; rw [if_pos hk]; exact h2
    · refine (some_no A n c b k f t w hb hn hf ht (by omega) (by omega) (by omega)).mono ?_
      rintro e w' ⟨rfl, h3⟩
      refine ⟨none, 0, 0, ?_, ?_, h3⟩
      · unfold resZ; rw [if_neg hk]
      · unfold resL; rw [if_neg hk]; exact zs_none _ _ _
theorem seven_bs (w : World) (t : TypeId) : Bs (w.alloc (.cells #[.int .u8 7] t)) (w.alloc (.cells #[.int .u8 7] t)).heap.size (some ⟨w.heap.size, 0, none⟩) 1 1 [7] := by
  have h := lit_bs w t (0, 0) [7] #[.int .u8 7] rfl 1 rfl (by decide)
  rwa [← World.size_alloc w (.cells #[.int .u8 7] t)] at h
section
set_option maxRecDepth 100000
set_option maxHeartbeats 1000000
theorem known_some (A : Option Addr) (c : Nat) (w : World) (hb : Bs w w.heap.size A 1 c [7]) : Calls Tryd.prog 10 #[.slice A 1 c, .int .i64 6, .int .i64 0, .int .i64 8] w fun e w' => e = .returned (.tuple #[.slice none 0 0, .int .i64 12]) ∧ Below w.heap.size w w' :=
  some_no A 1 c [7] 6 0 8 w hb (by decide) (by decide) (by decide) (by decide) (by decide) (by decide)
theorem known_first (A : Option Addr) (c : Nat) (w : World) (h0 : 0 < w.heap.size) (hT : TabD w) (hb : Bs w w.heap.size A 1 c [7]) : Calls Tryd.prog 17 #[.slice A 1 c, .int .i64 0, .int .i64 8] w fun e w' => e = .returned (.int .i64 3) ∧ Below w.heap.size w w' :=
  first_any A 1 c [7] 0 8 w h0 hT hb (by decide) (by decide) (by decide)
theorem known_count (A : Option Addr) (c : Nat) (w : World) (hb : Bs w w.heap.size A 1 c [7]) : Calls Tryd.prog 20 #[.slice A 1 c, .int .i64 0, .int .i64 8] w fun e w' => e = .returned (.int .i64 3) ∧ Below w.heap.size w w' :=
  counts_any A 1 c [7] 0 8 w hb (by decide) (by decide) (by decide)
theorem known_wide (w : World) : Calls Tryd.prog 22 #[.int .i64 9] w fun e w' => e = .returned (.int .i64 2) ∧ w' = w := wide_any 9 w (by decide) (by decide)
theorem known12_any (w : World) (h0 : 0 < w.heap.size) (hT : TabD w) : Calls Tryd.prog 9 #[] w fun e w' => e = .returned (.bool true) ∧ Below w.heap.size w w' := by
  go_enter Tryd.func9, Tryd.ntmps9
  go_wp2_with fail
  have hb1 : Below w.heap.size w (w.alloc (.cells #[.int .u8 7] 5)) := (Below.refl _ _).alloc (Nat.le_refl _) _
  refine (known_some _ _ _ (seven_bs w 5)).mono ?_
  rintro e w1 ⟨rfl, hb2⟩
  have HB1 : Kp (Below w.heap.size w w1) := ⟨hb1.trans (hb2.mono hb1.size)⟩
  have HT : Kp _ := ⟨hT⟩
  clear hb1 hb2 hT
  go_wp2_with fail
  have hb3 : Below w1.heap.size w1 (w1.alloc (.cells #[.int .u8 7] 5)) := (Below.refl _ _).alloc (Nat.le_refl _) _
  have hB3 : Below w.heap.size w (w1.alloc (.cells #[.int .u8 7] 5)) := HB1.out.trans (hb3.mono HB1.out.size)
  refine (known_first _ _ _ (Nat.lt_of_lt_of_le h0 hB3.size) (HT.out.below hB3 h0) (seven_bs w1 5)).mono ?_
  rintro e w2 ⟨rfl, hb4⟩
  have HB2 : Kp (Below w.heap.size w w2) := ⟨hB3.trans (hb4.mono hB3.size)⟩
  clear hb3 hB3 hb4 HB1
  go_wp2_with fail
  have hb3 : Below w2.heap.size w2 (w2.alloc (.cells #[.int .u8 7] 5)) := (Below.refl _ _).alloc (Nat.le_refl _) _
  have hB3 : Below w.heap.size w (w2.alloc (.cells #[.int .u8 7] 5)) := HB2.out.trans (hb3.mono HB2.out.size)
  refine (known_count _ _ _ (seven_bs w2 5)).mono ?_
  rintro e w3 ⟨rfl, hb4⟩
  have HB3 : Kp (Below w.heap.size w w3) := ⟨hB3.trans (hb4.mono hB3.size)⟩
  clear hb3 hB3 hb4 HB2
  go_wp2_with (go_at_call 22; refine (known_wide _).mono ?_; rintro e w9 ⟨rfl, rfl⟩)
  go_ret
  exact ⟨rfl, HB3.out⟩
end
end Go.Proofs.YtgkeckfiacdpkaaDoor
