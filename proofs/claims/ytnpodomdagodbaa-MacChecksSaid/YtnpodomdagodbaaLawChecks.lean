/- The walk of MacChecks. -/
import Derived.Test.YtnpodomdagodbaaKnown3
import Derived.Test.YtnpodomdagodbaaFlip
namespace Go.Proofs.Ytnpodomdagodbaa
open Go.RowKit

set_option maxRecDepth 100000 in
set_option maxHeartbeats 4000000 in
theorem walk_macChecks (A : Option Addr) (n c : Nat) (key : List UInt8) (B : Option Addr) (m d : Nat) (b : List UInt8) (x y : Int) (w : World) (ha : Bs w w.heap.size A n c key) (hb : Bs w w.heap.size B m d b) (hx : (Lit.int .u8 x).wf = true) (hy : (Lit.int .u8 y).wf = true) :
    Calls Try.prog 11 #[.slice A n c, .slice B m d, .int .u8 x, .int .u8 y] w fun e w' => e = .returned (.bool true) ∧ Below w.heap.size w w' := by
  have hxb : 0 ≤ x ∧ x ≤ 255 := by simpa [Lit.wf, IntKind.min, IntKind.max, IntKind.signed, IntKind.bits] using hx
  have hyb : 0 ≤ y ∧ y ≤ 255 := by simpa [Lit.wf, IntKind.min, IntKind.max, IntKind.signed, IntKind.bits] using hy
  have hn63 := ha.le
  have hm63 := hb.le
  have HA : Kp _ := ⟨ha⟩
  have HB : Kp _ := ⟨hb⟩
  have HA0 : Kp _ := ⟨ha⟩
  have HB0 : Kp _ := ⟨hb⟩
  clear hx hy ha hb
  go_enter Try.func11, Try.ntmps11
  by_cases h200 : (200 : Int) < n
  · go_wp2_with fail
    refine (known3_any _).mono ?_
    rintro e w1 ⟨rfl, hB1⟩
    go_wp2
    go_ret
    exact ⟨rfl, hB1⟩
  by_cases h500 : (500 : Int) < m
  · go_wp2_with fail
    refine (known3_any _).mono ?_
    rintro e w1 ⟨rfl, hB1⟩
    go_wp2
    go_ret
    exact ⟨rfl, hB1⟩
  have HML : Kp (b.length ≤ 500) := ⟨by have := HB.out.len; omega⟩
  go_wp2_with fail
  refine (tag1 A n c key B m d b w 23 HA.out HB.out (by omega) (by have := HML.out; omega)).mono ?_
  rintro e w1 ⟨rfl, hB1⟩
  have HA1 : Kp _ := ⟨HA.out.next hB1 (Nat.le_refl _)⟩
  have HB1 : Kp _ := ⟨HB.out.next hB1 (Nat.le_refl _)⟩
  have HDL : Kp _ := ⟨hmacL_length key b⟩
  generalize hD : hmacL key b = D at *
  have HD : Kp _ := ⟨hD⟩
  have HD32 : Kp ((cells8 D).length = 32) := ⟨by rw [cells8_length, HDL.out]⟩
  have HZ32 : Kp (zero32.length = 32) := ⟨rfl⟩
  clear hD HA HB
  go_wp2_with (with_reducible refine wpList_alloc (o := ⟨some 9, _, _, _, _, _⟩) tyDig rfl rfl ?_)
  intro w2 hk2 hb2 hs2
  have HK2 : Kp _ := ⟨hk2⟩
  clear hk2
  go_wp2_with (with_reducible refine wpList_storeAll (o := ⟨none, _, _, _, _, _⟩) (vs := cells8 D) rwDig rfl (.tmp 9) (.tmp 22) rfl rfl HK2.out HZ32.out HD32.out (cells8_one _) rfl ?_)
  intro w3 hk3 ho3
  have hs1 := hB1.size
  have hb13 : Below w1.heap.size w1 w3 := hb2.trans (ho3.below (Nat.le_refl _))
  have HK3 : Kp _ := ⟨hk3⟩
  have hg3 : w1.heap.size < w3.heap.size := hk3.lt
  have HA3 : Kp _ := ⟨HA1.out.next hb13 (Nat.le_refl _)⟩
  have HB3 : Kp _ := ⟨HB1.out.next hb13 (Nat.le_refl _)⟩
  have hB3 := below_next hB1 hb13
  have HT3 : Kp (Bs w3 w3.heap.size (some ⟨w1.heap.size, 0, none⟩) 32 32 D) := ⟨hk3.bytes hg3 (by rw [List.drop_zero, List.take_of_length_le (by rw [HD32.out]; exact Nat.le_refl _)]) HDL.out 32 (Nat.le_refl _) (by decide)⟩
  clear hk3 ho3 HK2 hb2 hs2 HA1 HB1 hB1 hb13
  go_wp2_with fail
  refine (check1 A n c key _ 32 32 D B m d b w3 23 HA3.out HT3.out HB3.out (by omega) (by have := HML.out; omega)).mono ?_
  rintro e w4 ⟨rfl, hB4⟩
  rw [HD.out, beq_self_eq_true]
  have HA4 : Kp _ := ⟨HA3.out.next hB4 (Nat.le_refl _)⟩
  have HB4 : Kp _ := ⟨HB3.out.next hB4 (Nat.le_refl _)⟩
  have HK4 : Kp _ := ⟨HK3.out.below hB4 hg3⟩
  have hg4 : w1.heap.size < w4.heap.size := Nat.lt_of_lt_of_le hg3 hB4.size
  have hB04 := below_next hB3 hB4
  have HT4 : Kp (Bs w4 w4.heap.size (some ⟨w1.heap.size, 0, none⟩) 31 32 (D.take 31)) := ⟨HK4.out.bytes hg4 (by rw [List.drop_zero]; simp [cells8, List.map_take]) (by rw [List.length_take, HDL.out]; omega) 32 (by omega) (by decide)⟩
  clear HA3 HB3 HK3 HT3 hB3 hB4
  go_wp2_with fail
  refine (check1 A n c key _ 31 32 (D.take 31) B m d b w4 23 HA4.out HT4.out HB4.out (by omega) (by have := HML.out; omega)).mono ?_
  rintro e w5 ⟨rfl, hB5⟩
  rw [HD.out, ne_cut D 31 (by rw [HDL.out]; omega)]
  have HA5 : Kp _ := ⟨HA4.out.next hB5 (Nat.le_refl _)⟩
  have HB5 : Kp _ := ⟨HB4.out.next hB5 (Nat.le_refl _)⟩
  have HK5 : Kp _ := ⟨HK4.out.below hB5 hg4⟩
  have hg5 : w1.heap.size < w5.heap.size := Nat.lt_of_lt_of_le hg4 hB5.size
  have hB05 := below_next hB04 hB5
  clear HA4 HB4 HK4 HT4 hB04 hB5 hg3 hg4
  obtain ⟨k, hk⟩ : ∃ k : Nat, k = x.toNat % 32 := ⟨_, rfl⟩
  have hk32 : k < 32 := by omega
  have hmod : x % 32 = (k : Int) := by omega
  have hkl : k < D.length := by rw [HDL.out]; exact hk32
  have hc5 : w5.cell? ⟨w1.heap.size, k, none⟩ = some (.int .u8 (D[k].toNat : Int)) := by
    rw [HK5.out.cell? k, cells8_at D k hkl]
  have hf5 := HK5.out.frozen k
  have HV : Kp _ := ⟨flip8_val D[k] (y % 8)⟩
  have HNE : Kp _ := ⟨ne_set D k (flip8 D[k] (y % 8).toNat) hkl (flip8_ne _ _ (by omega))⟩
  have hs : w1.heap.size < w5.heap.size := hg5
  clear hk
  go_wp2_with fail
  rw [HV.out]
  have HK6 : Kp _ := ⟨HK5.out.set k (.int .u8 ((flip8 D[k] (y % 8).toNat).toNat : Int))⟩
  have hB56 : Below w.heap.size w5 (w5.setCell ⟨w1.heap.size, k, none⟩ (.int .u8 ((flip8 D[k] (y % 8).toNat).toNat : Int))) := (Below.refl _ _).setCell hs1 _
  have hs6 : w5.heap.size = (w5.setCell ⟨w1.heap.size, k, none⟩ (.int .u8 ((flip8 D[k] (y % 8).toNat).toNat : Int))).heap.size := by simp [World.setCell]
  generalize flip8 D[k] (y % 8).toNat = z at *
  obtain ⟨w6, hw6⟩ : ∃ x, x = w5.setCell ⟨w1.heap.size, k, none⟩ (.int .u8 (z.toNat : Int)) := ⟨_, rfl⟩
  rw [cells8_set] at HK6
  rw [← hw6] at HK6 hB56 hs6 ⊢
  rw [hs6]
  have HL6 : Kp ((D.set k z).length = 32) := ⟨by rw [List.length_set, HDL.out]⟩
  have HT6 : Kp (Bs w6 w6.heap.size (some ⟨w1.heap.size, 0, none⟩) 32 32 (D.set k z)) := ⟨HK6.out.bytes (by omega) (by rw [List.drop_zero, List.take_of_length_le (by rw [cells8_length, HL6.out]; exact Nat.le_refl _)]) HL6.out 32 (Nat.le_refl _) (by decide)⟩
  have HA6 : Kp (Bs w6 w6.heap.size A n c key) := ⟨(HA0.out.below (hB05.trans hB56)).more (by omega)⟩
  have HB6 : Kp (Bs w6 w6.heap.size B m d b) := ⟨(HB0.out.below (hB05.trans hB56)).more (by omega)⟩
  have hB06 : Below w.heap.size w w6 := hB05.trans hB56
  clear hw6 hs6 hc5 hf5 hmod HV
  refine (check1 A n c key _ 32 32 _ B m d b w6 23 HA6.out HT6.out HB6.out (by omega) (by have := HML.out; omega)).mono ?_
  rintro e w7 ⟨rfl, hB7⟩
  rw [HD.out, HNE.out]
  have hB07 := below_next hB06 hB7
  go_wp2_with fail
  refine (known3_any _).mono ?_
  rintro e w8 ⟨rfl, hB8⟩
  have hB := below_next hB07 hB8
  go_wp2
  go_ret
  exact ⟨rfl, hB⟩

theorem law_macChecks (A : Option Addr) (n c : Nat) (key : List UInt8) (B : Option Addr) (m d : Nat) (b : List UInt8) (x y : Int) (w : World) (ha : Bs w w.heap.size A n c key ∧ c ≤ 140737488351232) (hb : Bs w w.heap.size B m d b ∧ d ≤ 140737488351232) (hx : (Lit.int .u8 x).wf = true) (hy : (Lit.int .u8 y).wf = true) :
    Calls Try.prog 11 #[.slice A n c, .slice B m d, .int .u8 x, .int .u8 y] w fun e w' => e = .returned (.bool true) ∧ Below w.heap.size w w' :=
  walk_macChecks A n c key B m d b x y w ha.1 hb.1 hx hy
end Go.Proofs.Ytnpodomdagodbaa
