/- The tags of no piece, of one, of two; and mac's Check. -/
import Derived.Test.YtnpodomdagodbaaMacTag
import Derived.Test.YtnpodomdagodbaaCEqual
namespace Go.Proofs.Ytnpodomdagodbaa
open Go.RowKit

theorem hmacL_length (key b : List UInt8) : (hmacL key b).length = 32 := by unfold hmacL; rw [shaL_len]
theorem tag0 (K : Option Addr) (n c : Nat) (key : List UInt8) (W : World) (hk : Bs W W.heap.size K n c key) (hn : n ≤ 524288) :
    Calls Try.prog 25 #[.slice K n c, .slice none 0 0] W fun e w' => e = .returned (.agg (cells8 (hmacL key [])).toArray) ∧ Below W.heap.size W w' :=
  tag_any K n c key none 0 0 [] W hk (Ls.zero W _) hn (by simp)
theorem tag1 (K : Option Addr) (n c : Nat) (key : List UInt8) (A : Option Addr) (m d : Nat) (la : List UInt8) (W : World) (t : TypeId) (hk : Bs W W.heap.size K n c key) (ha : Bs W W.heap.size A m d la) (hn : n ≤ 524288) (hm : la.length ≤ 524000) :
    Calls Try.prog 25 #[.slice K n c, .slice (some ⟨W.heap.size, 0, none⟩) 1 1] (W.alloc (.cells #[.slice A m d] t)) fun e w' => e = .returned (.agg (cells8 (hmacL key la)).toArray) ∧ Below W.heap.size W w' := by
  refine (tag_any K n c key _ 1 1 [la] _ ((hk.alloc (Nat.le_refl _) _).more (by simp)) ((Ls.one t ha).more (by simp)) hn (by simpa using hm)).mono ?_
  rintro e w' ⟨rfl, hb⟩
  have e1 : [la].flatten = la := by simp
  rw [e1]
  exact ⟨rfl, ((Below.refl _ _).alloc (Nat.le_refl _) _).trans (hb.mono (by simp))⟩
theorem tag2 (K : Option Addr) (n c : Nat) (key : List UInt8) (A : Option Addr) (m d : Nat) (la : List UInt8) (B : Option Addr) (p q : Nat) (lb : List UInt8) (W : World) (t : TypeId) (hk : Bs W W.heap.size K n c key) (ha : Bs W W.heap.size A m d la) (hb : Bs W W.heap.size B p q lb) (hn : n ≤ 524288) (hm : la.length + lb.length ≤ 524000) :
    Calls Try.prog 25 #[.slice K n c, .slice (some ⟨W.heap.size, 0, none⟩) 2 2] (W.alloc (.cells #[.slice A m d, .slice B p q] t)) fun e w' => e = .returned (.agg (cells8 (hmacL key (la ++ lb))).toArray) ∧ Below W.heap.size W w' := by
  refine (tag_any K n c key _ 2 2 [la, lb] _ ((hk.alloc (Nat.le_refl _) _).more (by simp)) ((Ls.two t ha hb).more (by simp)) hn (by simpa using hm)).mono ?_
  rintro e w' ⟨rfl, hb⟩
  have e1 : [la, lb].flatten = la ++ lb := by simp
  rw [e1]
  exact ⟨rfl, ((Below.refl _ _).alloc (Nat.le_refl _) _).trans (hb.mono (by simp))⟩

set_option maxRecDepth 100000 in
set_option maxHeartbeats 2000000 in
theorem check_any (K : Option Addr) (n c : Nat) (key : List UInt8) (T : Option Addr) (p q : Nat) (tag : List UInt8) (B : Option Addr) (m d : Nat) (ls : List (List UInt8)) (w : World)
    (ha : Bs w w.heap.size K n c key) (ht : Bs w w.heap.size T p q tag) (hb : Ls w w.heap.size B m d ls) (hn : n ≤ 524288) (hm : ls.flatten.length ≤ 524000) :
    Calls Try.prog 26 #[.slice K n c, .slice T p q, .slice B m d] w fun e w' => e = .returned (.bool (tag == hmacL key ls.flatten)) ∧ Below w.heap.size w w' := by
  have HA : Kp _ := ⟨ha⟩
  have HT : Kp _ := ⟨ht⟩
  have HB : Kp _ := ⟨hb⟩
  clear ha ht hb
  go_enter Try.func26, Try.ntmps26
  go_wp2_with fail
  refine (tag_any K n c key B m d ls w HA.out HB.out hn hm).mono ?_
  rintro e w1 ⟨rfl, hB1⟩
  have HT1 : Kp _ := ⟨HT.out.below hB1⟩
  have HDL : Kp _ := ⟨hmacL_length key ls.flatten⟩
  generalize hD : hmacL key ls.flatten = D at *
  have HD : Kp _ := ⟨hD⟩
  clear hD
  have HD32 : Kp ((cells8 D).length = 32) := ⟨by rw [cells8_length, HDL.out]⟩
  have HZ32 : Kp (zero32.length = 32) := ⟨rfl⟩
  clear HA HB HT
  go_wp2_with (with_reducible refine wpList_alloc (o := ⟨some 7, _, _, _, _, _⟩) tyDig rfl rfl ?_)
  intro w2 hk2 hb2 hs2
  have HK2 : Kp _ := ⟨hk2⟩
  clear hk2
  go_wp2_with (with_reducible refine wpList_storeAll (o := ⟨none, _, _, _, _, _⟩) (vs := cells8 D) rwDig rfl (.tmp 7) (.tmp 10) rfl rfl HK2.out HZ32.out HD32.out (cells8_one _) rfl ?_)
  intro w3 hk3 ho3
  have hs3 := ho3.size
  have hs1 := hB1.size
  have hB13 : Below w1.heap.size w1 w3 := hb2.trans (ho3.below (Nat.le_refl _))
  have HD3 : Kp (Bs w3 w3.heap.size (some ⟨w1.heap.size, 0, none⟩) 32 32 D) := ⟨hk3.bytes (by omega) (by rw [List.drop_zero, List.take_of_length_le (by rw [HD32.out]; exact Nat.le_refl _)]) HDL.out 32 (Nat.le_refl _) (by decide)⟩
  have HT3 : Kp (Bs w3 w3.heap.size T p q tag) := ⟨(HT1.out.below' hB13 hs1).more (by omega)⟩
  have hB3 : Below w.heap.size w w3 := hB1.trans (hB13.mono hs1)
  clear hk3 ho3 HK2 HT1 hb2 hs2 hs3 hB13 hB1
  go_wp2_with fail
  refine (equal_any T _ p q 32 32 tag D w3 HT3.out HD3.out).mono ?_
  rintro e w4 ⟨rfl, hB4⟩
  have hB := hB3.trans (hB4.mono hB3.size)
  go_wp2
  go_ret
  exact ⟨by rw [HD.out]; rfl, hB⟩
theorem check0 (K : Option Addr) (n c : Nat) (key : List UInt8) (T : Option Addr) (p q : Nat) (tag : List UInt8) (W : World) (hk : Bs W W.heap.size K n c key) (ht : Bs W W.heap.size T p q tag) (hn : n ≤ 524288) :
    Calls Try.prog 26 #[.slice K n c, .slice T p q, .slice none 0 0] W fun e w' => e = .returned (.bool (tag == hmacL key [])) ∧ Below W.heap.size W w' :=
  check_any K n c key T p q tag none 0 0 [] W hk ht (Ls.zero W _) hn (by simp)
theorem check1 (K : Option Addr) (n c : Nat) (key : List UInt8) (T : Option Addr) (p q : Nat) (tag : List UInt8) (A : Option Addr) (m d : Nat) (la : List UInt8) (W : World) (t : TypeId) (hk : Bs W W.heap.size K n c key) (ht : Bs W W.heap.size T p q tag) (ha : Bs W W.heap.size A m d la) (hn : n ≤ 524288) (hm : la.length ≤ 524000) :
    Calls Try.prog 26 #[.slice K n c, .slice T p q, .slice (some ⟨W.heap.size, 0, none⟩) 1 1] (W.alloc (.cells #[.slice A m d] t)) fun e w' => e = .returned (.bool (tag == hmacL key la)) ∧ Below W.heap.size W w' := by
  refine (check_any K n c key T p q tag _ 1 1 [la] _ ((hk.alloc (Nat.le_refl _) _).more (by simp)) ((ht.alloc (Nat.le_refl _) _).more (by simp)) ((Ls.one t ha).more (by simp)) hn (by simpa using hm)).mono ?_
  rintro e w' ⟨rfl, hb⟩
  have e1 : [la].flatten = la := by simp
  rw [e1]
  exact ⟨rfl, ((Below.refl _ _).alloc (Nat.le_refl _) _).trans (hb.mono (by simp))⟩
theorem check2 (K : Option Addr) (n c : Nat) (key : List UInt8) (T : Option Addr) (p q : Nat) (tag : List UInt8) (A : Option Addr) (m d : Nat) (la : List UInt8) (B : Option Addr) (r s : Nat) (lb : List UInt8) (W : World) (t : TypeId) (hk : Bs W W.heap.size K n c key) (ht : Bs W W.heap.size T p q tag) (ha : Bs W W.heap.size A m d la) (hb : Bs W W.heap.size B r s lb) (hn : n ≤ 524288) (hm : la.length + lb.length ≤ 524000) :
    Calls Try.prog 26 #[.slice K n c, .slice T p q, .slice (some ⟨W.heap.size, 0, none⟩) 2 2] (W.alloc (.cells #[.slice A m d, .slice B r s] t)) fun e w' => e = .returned (.bool (tag == hmacL key (la ++ lb))) ∧ Below W.heap.size W w' := by
  refine (check_any K n c key T p q tag _ 2 2 [la, lb] _ ((hk.alloc (Nat.le_refl _) _).more (by simp)) ((ht.alloc (Nat.le_refl _) _).more (by simp)) ((Ls.two t ha hb).more (by simp)) hn (by simpa using hm)).mono ?_
  rintro e w' ⟨rfl, hb⟩
  have e1 : [la, lb].flatten = la ++ lb := by simp
  rw [e1]
  exact ⟨rfl, ((Below.refl _ _).alloc (Nat.le_refl _) _).trans (hb.mono (by simp))⟩
end Go.Proofs.Ytnpodomdagodbaa
