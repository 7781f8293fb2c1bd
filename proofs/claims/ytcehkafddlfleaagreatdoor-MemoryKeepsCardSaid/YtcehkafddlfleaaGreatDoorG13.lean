/- 
   
   
   
   
    -/
import Derived.Test.YtcehkafddlfleaaGreatDoorG06
import Derived.Test.YtcehkafddlfleaaGreatDoorG01
import Derived.Test.YtcehkafddlfleaaGreatDoorG04
import Derived.Test.YtcehkafddlfleaaGreatDoorG08
namespace Go.Proofs.YtcehkafddlfleaaGreatDoor
open Go.RowKit
structure Rc where
 num : Nat
 blk : Int
 sl : List UInt8
 su : List (List UInt8)
def rc0 : Rc := ⟨0, 0, [], []⟩
structure Ds (w : World) (B : Nat) (A : Option Addr) (n c : Nat) (ds : List (List UInt8)) : Prop where
 len : ds.length = n
 cap : n ≤ c
 max : c ≤ maxLen
 nil : A = none → c = 0
 wide : ∀ d ∈ ds, d.length = 32
 cells : 0 < n → ∃ b o, A = some ⟨b, o, none⟩ ∧ b < B ∧ ∀ i (h : i < ds.length), w.rangeAt b (o + i * 32) (cells8 ds[i])
section
variable {w w' : World} {B B' : Nat} {A : Option Addr} {n c : Nat} {ds : List (List UInt8)}
theorem Ds.zero (w : World) (B : Nat) : Ds w B none 0 0 [] := ⟨rfl, Nat.le_refl _, Nat.zero_le _, fun _ => rfl, (fun d h => by cases h), fun h => absurd h (by omega)⟩
theorem Ds.le (h : Ds w B A n c ds) : n ≤ 9223372036854775807 := by have := h.cap; have := h.max; simp only [maxLen] at this; omega
theorem Ds.keep (h : Ds w B A n c ds) (hk : ∀ p : Addr, p.block < B → w'.cell? p = w.cell? p) : Ds w' B A n c ds :=
 ⟨h.len, h.cap, h.max, h.nil, h.wide, fun h0 => by
  obtain ⟨b, o, hA, hb, hc⟩ := h.cells h0
  exact ⟨b, o, hA, hb, fun i hi j u hu => (hk _ hb).trans (hc i hi j u hu)⟩⟩
theorem Ds.more (h : Ds w B A n c ds) (hB : B ≤ B') : Ds w B' A n c ds :=
 ⟨h.len, h.cap, h.max, h.nil, h.wide, fun h0 => by
  obtain ⟨b, o, hA, hb, hc⟩ := h.cells h0
  exact ⟨b, o, hA, by omega, hc⟩⟩
theorem Ds.below (h : Ds w B A n c ds) (hb : Below B w w') : Ds w' B A n c ds := h.keep fun _ hp => hb.cell hp
theorem Ds.drew (h : Ds w B A n c ds) : Ds w.drew B A n c ds := h.keep fun _ _ => rfl
theorem Ds.next (h : Ds w B A n c ds) (hb : Below w.heap.size w w') (hB : B ≤ w.heap.size) : Ds w' w'.heap.size A n c ds :=
 (h.below (hb.mono hB)).more (Nat.le_trans hB hb.size)
theorem Ds.at (h : Ds w B A n c ds) {i : Nat} (hi : i < n) : ∃ b o, A = some ⟨b, o, none⟩ ∧ b < B ∧ w.rangeAt b (o + i * 32) (cells8 (ds[i]'(by have := h.len; omega))) ∧ (ds[i]'(by have := h.len; omega)).length = 32 := by
 obtain ⟨b, o, hA, hb, hc⟩ := h.cells (by omega)
 exact ⟨b, o, hA, hb, hc i (by have := h.len; omega), h.wide _ (List.getElem_mem _)⟩
theorem flat_len (ds : List (List UInt8)) (h : ∀ d ∈ ds, d.length = 32) : ds.flatten.length = ds.length * 32 := by
 induction ds with
 | nil => rfl
 | cons d ds ih =>
  rw [List.flatten_cons, List.length_append, h d (List.mem_cons_self ..), ih (fun x hx => h x (List.mem_cons_of_mem _ hx)), List.length_cons]; omega
theorem flat_at (ds : List (List UInt8)) (h : ∀ d ∈ ds, d.length = 32) (i : Nat) (hi : i < ds.length) : (ds.flatten.drop (i * 32)).take 32 = ds[i] := by
 induction ds generalizing i with
 | nil => simp at hi
 | cons d ds ih =>
  have hd := h d (List.mem_cons_self ..)
  rw [List.flatten_cons]
  match i with
  | 0 => rw [Nat.zero_mul, List.drop_zero, ← hd, List.take_left]; rfl
  | i + 1 =>
   rw [show (i + 1) * 32 = d.length + i * 32 by omega, List.drop_append]
   rw [List.drop_of_length_le (by omega), List.nil_append, show d.length + i * 32 - d.length = i * 32 by omega]
   exact ih (fun x hx => h x (List.mem_cons_of_mem _ hx)) i (by simpa using hi)
theorem Ds.of_own {base : Nat} {e : TypeId} {v : Value} (hd : ∀ d ∈ ds, d.length = 32) (h : w.ownsRow base e 32 v n (cells8 ds.flatten)) : ∃ A c, v = .slice A n c ∧ Ds w w.heap.size A n c ds := by
 have hl : ds.length = n := by
  have := h.1
  rw [cells8_length, flat_len ds hd] at this
  omega
 rcases h.2 with ⟨rfl, rfl⟩ | ⟨g, cap, cur, rfl, hg, hh, hn, hm, hs, ht⟩
 ·obtain rfl : ds = [] := List.eq_nil_of_length_eq_zero hl
  exact ⟨none, 0, rfl, Ds.zero w _⟩
 ·refine ⟨some ⟨g, 0, none⟩, cap, rfl, hl, hn, hm, (fun h => by cases h), hd, fun h0 => ⟨g, 0, rfl, (Array.getElem?_eq_some_iff.1 hh).1, fun i hi j u hu => ?_⟩⟩
  obtain ⟨hj, rfl⟩ := cells8_some hu
  have hd32 := hd _ (List.getElem_mem hi)
  have hf := flat_len ds hd
  have hlt : i * 32 + j < ds.flatten.length := by rw [hf]; omega
  have h1 := h.cells (g := g) rfl (i * 32 + j) _ (cells8_at _ _ hlt)
  rw [Addr.add_lit] at h1
  have e1 : ds.flatten[i * 32 + j] = ds[i][j] := by
   have h2 : ((ds.flatten.drop (i * 32)).take 32)[j]? = ds[i][j]? := by rw [flat_at ds hd i hi]
   rw [List.getElem?_take_of_lt (by omega), List.getElem?_drop, List.getElem?_eq_getElem hlt, List.getElem?_eq_getElem hj] at h2
   exact Option.some.inj h2
  rw [e1] at h1
  rw [← h1]
  congr 2
  omega
theorem Ds.news (h : Ds w B A n c ds) : ∀ ad, A = some ad → ∀ j u, (cells8 ds.flatten)[j]? = some u → w.cell? (ad.add j) = some u := by
 intro ad hA j u hu
 obtain ⟨hj, rfl⟩ := cells8_some hu
 have hf := flat_len ds h.wide
 have hl := h.len
 obtain ⟨b, o, hA', _, hc⟩ := h.cells (by omega)
 rw [hA] at hA'
 obtain rfl := Option.some.inj hA'
 rw [Addr.add_lit]
 have hi : j / 32 < ds.length := by omega
 have hd32 := h.wide _ (List.getElem_mem hi)
 have hj2 : j % 32 < ds[j / 32].length := by omega
 have h1 := hc (j / 32) hi (j % 32) _ (cells8_at _ _ hj2)
 have e1 : ds.flatten[j] = ds[j / 32][j % 32] := by
  have h2 : ((ds.flatten.drop (j / 32 * 32)).take 32)[j % 32]? = ds[j / 32][j % 32]? := by rw [flat_at ds h.wide (j / 32) hi]
  rw [List.getElem?_take_of_lt (by omega), List.getElem?_drop, List.getElem?_eq_getElem (by omega), List.getElem?_eq_getElem hj2] at h2
  have h3 := Option.some.inj h2
  rw [← h3]
  congr 1
  omega
 rw [e1, ← h1]
 congr 2
 omega
end
structure Rs (w : World) (B : Nat) (A : Option Addr) (n c : Nat) (D : Option Addr) (m e : Nat) (r : Rc) : Prop where
 num : r.num < 18446744073709551616
 blk : -9223372036854775808 ≤ r.blk ∧ r.blk < 9223372036854775808
 sl : Bs w B A n c r.sl
 su : Ds w B D m e r.su
abbrev rcV (r : Rc) (A : Option Addr) (n c : Nat) (D : Option Addr) (m e : Nat) : Value := .agg #[.int .u64 r.num, .int .i64 r.blk, .slice A n c, .slice D m e]
section
variable {w w' : World} {B B' : Nat} {A D : Option Addr} {n c m e : Nat} {r : Rc}
theorem Rs.below (h : Rs w B A n c D m e r) (hb : Below B w w') : Rs w' B A n c D m e r := ⟨h.num, h.blk, h.sl.below hb, h.su.below hb⟩
theorem Rs.more (h : Rs w B A n c D m e r) (hB : B ≤ B') : Rs w B' A n c D m e r := ⟨h.num, h.blk, h.sl.more hB, h.su.more hB⟩
theorem Rs.next (h : Rs w B A n c D m e r) (hb : Below w.heap.size w w') (hB : B ≤ w.heap.size) : Rs w' w'.heap.size A n c D m e r := ⟨h.num, h.blk, h.sl.next hb hB, h.su.next hb hB⟩
theorem Rs.drew (h : Rs w B A n c D m e r) : Rs w.drew B A n c D m e r := ⟨h.num, h.blk, h.sl.drew, h.su.drew⟩
theorem Rs.zero (w : World) (B : Nat) : Rs w B none 0 0 none 0 0 rc0 := ⟨by decide, by decide, Bs.zero w B, Ds.zero w B⟩
end
def partsI (b : Int) : Int := if b < 1 then 0 else (b - 1) / 16 + 1
def groupsI (b e : Int) : Int := if b < 1 then 0 else (b - 1) / e + 1
def slotN (l : List UInt8) (i : Nat) : Nat := (l.getD (i / 8) 0).toNat / 2 ^ (i % 8) % 2
def slotI (l : List UInt8) (at_ : Int) : Nat := if at_ < 0 then 0 else slotN l at_.toNat
structure Rt (r : Rc) : Prop where
 lo : 0 ≤ r.blk
 hi : r.blk ≤ 4096
 sl : r.sl.length = (r.blk.toNat + 7) / 8
 su : r.su.length = (r.blk.toNat + 15) / 16
 zero : ∀ i, r.blk.toNat ≤ i → i < 8 * r.sl.length → slotN r.sl i = 0
noncomputable instance rtDec (r : Rc) : Decidable (Rt r) := Classical.propDecidable _
def flipL (l : List UInt8) (i : Nat) : List UInt8 := l.set (i / 8) (l.getD (i / 8) 0 ^^^ UInt8.ofNat (2 ^ (i % 8)))
def flipR (r : Rc) (at_ : Int) : Rc := if 0 ≤ at_ ∧ at_ < r.blk then { r with sl := flipL r.sl at_.toNat } else r
structure RsN (L : Nat) (w : World) (A : Option Addr) (n c : Nat) (D : Option Addr) (m e : Nat) (r : Rc) : Prop extends Rs w w.heap.size A n c D m e r where
 fa : Fr L A
 fd : Fr L D
section
variable {L L' : Nat} {w w' : World} {A D : Option Addr} {n c m e : Nat} {r : Rc}
theorem RsN.next (h : RsN L w A n c D m e r) (hb : Below w.heap.size w w') (hB : w.heap.size ≤ w.heap.size) : RsN L w' A n c D m e r := ⟨h.toRs.next hb hB, h.fa, h.fd⟩
theorem RsN.zero (L : Nat) (w : World) : RsN L w none 0 0 none 0 0 rc0 := ⟨Rs.zero _ _, Fr.nil _, Fr.nil _⟩
theorem RsN.low (h : RsN L w A n c D m e r) (hL : L' ≤ L) : RsN L' w A n c D m e r := ⟨h.toRs, h.fa.low hL, h.fd.low hL⟩
end
end Go.Proofs.YtcehkafddlfleaaGreatDoor

namespace Go.Proofs.YtcehkafddlfleaaGreatDoor
open Go.RowKit
set_option maxHeartbeats 1000000 in
theorem groups8_any (b : Int) (w : World) (hb : -9223372036854775808 ≤ b ∧ b < 9223372036854775808) :
  Calls Tryz.prog 139 #[.int .i64 b, .int .i64 8] w fun x w' => x = .returned (.int .i64 (groupsI b 8)) ∧ w' = w := by
 obtain ⟨h1, h2⟩ := hb
 by_cases h : b < 1
 ·have HG : Kp (groupsI b 8 = 0) := ⟨by unfold groupsI; rw [if_pos h]⟩
  go_enter Tryz.func139, Tryz.ntmps139
  go_wp2
  go_ret
  exact ⟨ret_eq (by rw [HG.out]; rfl), rfl⟩
 ·obtain ⟨k, rfl⟩ : ∃ k : Nat, b = (k : Int) + 1 := ⟨(b - 1).toNat, by omega⟩
  have HG : Kp (groupsI ((k : Int) + 1) 8 = ((k / 8 + 1 : Nat) : Int)) := ⟨by unfold groupsI; rw [if_neg h]; omega⟩
  rw [HG.out]
  clear HG
  go_enter Tryz.func139, Tryz.ntmps139
  go_wp2
  go_ret
  exact ⟨ret_eq (by go_num), rfl⟩
set_option maxHeartbeats 1000000 in
theorem groups16_any (b : Int) (w : World) (hb : -9223372036854775808 ≤ b ∧ b < 9223372036854775808) :
  Calls Tryz.prog 139 #[.int .i64 b, .int .i64 16] w fun x w' => x = .returned (.int .i64 (groupsI b 16)) ∧ w' = w := by
 obtain ⟨h1, h2⟩ := hb
 by_cases h : b < 1
 ·have HG : Kp (groupsI b 16 = 0) := ⟨by unfold groupsI; rw [if_pos h]⟩
  go_enter Tryz.func139, Tryz.ntmps139
  go_wp2
  go_ret
  exact ⟨ret_eq (by rw [HG.out]; rfl), rfl⟩
 ·obtain ⟨k, rfl⟩ : ∃ k : Nat, b = (k : Int) + 1 := ⟨(b - 1).toNat, by omega⟩
  have HG : Kp (groupsI ((k : Int) + 1) 16 = ((k / 16 + 1 : Nat) : Int)) := ⟨by unfold groupsI; rw [if_neg h]; omega⟩
  rw [HG.out]
  clear HG
  go_enter Tryz.func139, Tryz.ntmps139
  go_wp2
  go_ret
  exact ⟨ret_eq (by go_num), rfl⟩
theorem parts_any (b : Int) (w : World) (hb : -9223372036854775808 ≤ b ∧ b < 9223372036854775808) :
  Calls Tryz.prog 83 #[.int .i64 b] w fun x w' => x = .returned (.int .i64 (partsI b)) ∧ w' = w := by
 have HB : Kp _ := ⟨hb⟩
 clear hb
 go_enter Tryz.func83, Tryz.ntmps83
 go_wp2_with fail
 refine (groups16_any b w HB.out).mono ?_
 rintro x w1 ⟨rfl, rfl⟩
 go_wp2
 go_ret
 exact ⟨ret_eq rfl, rfl⟩
theorem slot_and (x : UInt8) (k : Nat) (hk : k < 8) : bits .and .u8 ((x.toNat : Int) / 2 ^ k) 1 = ((x.toNat / 2 ^ k % 2 : Nat) : Int) := by
 have hx := x.toNat_lt
 rcases (by omega : k = 0 ∨ k = 1 ∨ k = 2 ∨ k = 3 ∨ k = 4 ∨ k = 5 ∨ k = 6 ∨ k = 7) with rfl | rfl | rfl | rfl | rfl | rfl | rfl | rfl
 all_goals
  generalize x.toNat = y at *
  revert y
  decide +kernel
end Go.Proofs.YtcehkafddlfleaaGreatDoor

namespace Go.Proofs.YtcehkafddlfleaaGreatDoor
open Go.RowKit
theorem slotI_neg (l : List UInt8) (a : Int) (h : a < 0) : slotI l a = 0 := by unfold slotI; rw [if_pos h]
theorem slotI_far (l : List UInt8) (k : Nat) (h : l.length ≤ k / 8) : slotI l (k : Int) = 0 := by
 unfold slotI slotN
 rw [if_neg (by omega), Int.toNat_natCast]
 have : l.getD (k / 8) 0 = 0 := by simp [List.getD, List.getElem?_eq_none h]
 rw [this]; simp
theorem slotI_at (l : List UInt8) (k q j : Nat) (hq : k / 8 = q) (hj : k % 8 = j) (h : q < l.length) : slotI l (k : Int) = l[q].toNat / 2 ^ j % 2 := by
 unfold slotI slotN
 rw [if_neg (by omega), Int.toNat_natCast, hq, hj]
 have : l.getD q 0 = l[q] := by simp [List.getD, List.getElem?_eq_getElem h]
 rw [this]
set_option maxRecDepth 100000 in
set_option maxHeartbeats 1000000 in
theorem slot_any (r : Rc) (A : Option Addr) (n c : Nat) (D : Option Addr) (m e : Nat) (a : Int) (w : World) (hR : Rs w w.heap.size A n c D m e r) (ha : -9223372036854775808 ≤ a ∧ a < 9223372036854775808) :
  Calls Tryz.prog 95 #[rcV r A n c D m e, .int .i64 a] w fun x w' => x = .returned (.int .i64 (slotI r.sl a : Nat)) ∧ Below w.heap.size w w' := by
 obtain ⟨num, blk, sl, su⟩ := r
 obtain ⟨h1, h2⟩ := ha
 have hs : Bs w w.heap.size A n c sl := hR.sl
 have hn := hs.le
 have HL : Kp (sl.length = n) := ⟨hs.len⟩
 have HB : Kp (Below w.heap.size w (w.alloc (.cells #[.int .u64 num, .int .i64 blk, .slice A n c, .slice D m e] 63))) := ⟨(Below.refl _ _).alloc (Nat.le_refl _) _⟩
 clear hR
 by_cases h : a < 0
 ·have HG : Kp (slotI sl a = 0) := ⟨slotI_neg sl a h⟩
  go_enter Tryz.func95, Tryz.ntmps95
  go_wp2
  go_ret
  exact ⟨ret_eq (by simp only [HG.out]; rfl), HB.out⟩
 ·obtain ⟨k, rfl⟩ : ∃ k : Nat, a = (k : Int) := ⟨a.toNat, by omega⟩
  obtain ⟨q, hq⟩ : ∃ q, k / 8 = q := ⟨_, rfl⟩
  obtain ⟨j, hj⟩ : ∃ j, k % 8 = j := ⟨_, rfl⟩
  have hj8 : j < 8 := by omega
  have hq60 : q < 1152921504606846976 := by omega
  have hk0 : (0 : Int) ≤ (k : Int) := by omega
  have kq : ((k : Int)).tdiv 8 = (q : Int) := by rw [Int.tdiv_eq_ediv_of_nonneg (by omega)]; omega
  have kj : ((k : Int)).tmod 8 = (j : Int) := by rw [Int.tmod_eq_emod_of_nonneg (by omega)]; omega
  by_cases hlt : q < n
  ·have hql : q < sl.length := by rw [HL.out]; exact hlt
   obtain ⟨b, o, rfl, hb, hc⟩ := hs.cell hlt
   have HG : Kp _ := ⟨slotI_at sl k q j hq hj hql⟩
   have ha := slot_and sl[q] j hj8
   have hv2 : sl[q].toNat / 2 ^ j % 2 < 2 := Nat.mod_lt _ (by omega)
   generalize sl[q].toNat / 2 ^ j % 2 = v at *
   have hc2 : (w.alloc (.cells #[.int .u64 num, .int .i64 blk, .slice (some ⟨b, o, none⟩) n c, .slice D m e] 63)).cell? ⟨b, o + q, none⟩ = some (.int .u8 (sl[q].toNat : Int)) := by rw [World.cell?_alloc_past _ _ _ hb]; exact hc
   clear hq hj hs hc h1 h2 hn
   go_enter Tryz.func95, Tryz.ntmps95
   go_wp2
   go_ret
   exact ⟨ret_eq (by simp only [HG.out]; rfl), HB.out⟩
  ·have HG : Kp _ := ⟨slotI_far sl k (by rw [HL.out]; omega)⟩
   clear hq hj h1 h2 hn
   go_enter Tryz.func95, Tryz.ntmps95
   go_wp2
   go_ret
   exact ⟨ret_eq (by simp only [HG.out]; rfl), HB.out⟩
end Go.Proofs.YtcehkafddlfleaaGreatDoor

namespace Go.Proofs.YtcehkafddlfleaaGreatDoor
open Go.RowKit
abbrev rcL (num : Nat) (blk : Int) (A : Option Addr) (n c : Nat) (D : Option Addr) (m e : Nat) : List Value := [.int .u64 num, .int .i64 blk, .slice A n c, .slice D m e]
abbrev rcZ : List Value := [.int .u64 0, .int .i64 0, .slice none 0 0, .slice none 0 0]
theorem tySeal : Ty Tryz.prog 63 rcZ := ⟨by kernel_rfl⟩
theorem rwSeal : Rw Tryz.prog 63 (match (Tryz.prog).underlying 63 with | some d => d | none => .bool) 4 := ⟨by kernel_rfl, by kernel_rfl, by kernel_rfl⟩
theorem groups_nat (b : Nat) : groupsI (b : Int) 8 = (((b + 7) / 8 : Nat) : Int) := by unfold groupsI; split <;> omega
theorem parts_nat (b : Nat) : partsI (b : Int) = (((b + 15) / 16 : Nat) : Int) := by unfold partsI; split <;> omega
theorem g8_any (b G : Nat) (w : World) (hb : b ≤ 4294967296) (hG : (b + 7) / 8 = G) :
  Calls Tryz.prog 139 #[.int .i64 b, .int .i64 8] w fun x w' => x = .returned (.int .i64 (G : Int)) ∧ w' = w := by
 rw [← hG, ← groups_nat]
 exact groups8_any b w (by omega)
theorem p16_any (b G : Nat) (w : World) (hb : b ≤ 4294967296) (hG : (b + 15) / 16 = G) :
  Calls Tryz.prog 83 #[.int .i64 b] w fun x w' => x = .returned (.int .i64 (G : Int)) ∧ w' = w := by
 rw [← hG, ← parts_nat]
 exact parts_any b w (by omega)
theorem rt_range {r : Rc} (h : r.blk < 0 ∨ 4096 < r.blk) : decide (Rt r) = false := decide_eq_false fun ht => by have := ht.lo; have := ht.hi; omega
theorem rt_sl {r : Rc} (h : r.sl.length ≠ (r.blk.toNat + 7) / 8) : decide (Rt r) = false := decide_eq_false fun ht => h ht.sl
theorem rt_su {r : Rc} (h : r.su.length ≠ (r.blk.toNat + 15) / 16) : decide (Rt r) = false := decide_eq_false fun ht => h ht.su
theorem rt_bit {r : Rc} (i : Nat) (h1 : r.blk.toNat ≤ i) (h2 : i < 8 * r.sl.length) (h : slotN r.sl i ≠ 0) : decide (Rt r) = false := decide_eq_false fun ht => h (ht.zero i h1 h2)
theorem slotI_nat (l : List UInt8) (k : Nat) : slotI l (k : Int) = slotN l k := by unfold slotI; rw [if_neg (by omega), Int.toNat_natCast]
set_option maxRecDepth 100000 in
set_option maxHeartbeats 2000000 in
theorem right_any (r : Rc) (A : Option Addr) (n c : Nat) (D : Option Addr) (m e : Nat) (w : World) (hR : Rs w w.heap.size A n c D m e r) :
  Calls Tryz.prog 202 #[rcV r A n c D m e] w fun x w' => x = .returned (.bool (decide (Rt r))) ∧ Below w.heap.size w w' := by
 obtain ⟨num, blk, sl, su⟩ := r
 have HR : Kp _ := ⟨hR⟩
 have hlo := hR.blk.1
 have hhi := hR.blk.2
 by_cases hb : blk < 0 ∨ 4096 < blk
 ·have HG : Kp (decide (Rt ⟨num, blk, sl, su⟩) = false) := ⟨rt_range hb⟩
  clear hR hlo hhi
  rcases hb with hb | hb
  all_goals
   go_enter Tryz.func202, Tryz.ntmps202
   go_wp2_with (with_reducible refine wpList_box (o := ⟨some 1, _, _, _, _, _⟩) (cs := rcL num blk A n c D m e) rfl (.tmp 0) rfl rfl ?_)
   intro w1 hk1 hb1 hs1
   have e1 : w1.cell? ⟨w.heap.size, 1, none⟩ = some (.int .i64 blk) := hk1.cell? 1
   have HB1 : Kp _ := ⟨hb1⟩
   clear hk1 hb1 hs1
   go_wp2
   go_ret
   exact ⟨ret_eq (by rw [HG.out]; rfl), HB1.out⟩
 ·obtain ⟨b, rfl⟩ : ∃ b : Nat, blk = (b : Int) := ⟨blk.toNat, by omega⟩
  have hb4 : b ≤ 4096 := by omega
  obtain ⟨G, hG⟩ : ∃ G, (b + 7) / 8 = G := ⟨_, rfl⟩
  obtain ⟨N, hN⟩ : ∃ N, (b + 15) / 16 = N := ⟨_, rfl⟩
  have HGG : Kp _ := ⟨hG⟩
  have HNN : Kp _ := ⟨hN⟩
  have HB4 : Kp (b ≤ 4294967296) := ⟨by omega⟩
  have hGb : b ≤ 8 * G ∧ G ≤ 520 := by omega
  have hlsl : sl.length = n := hR.sl.len
  have hlsu : su.length = m := hR.su.len
  have hn63 := hR.sl.le
  have hm63 := hR.su.le
  have HLn : Kp _ := ⟨hlsl⟩
  clear hR hb hlo hhi
  by_cases h1 : n = G
  ·by_cases h2 : m = N
   ·have HRT : Kp ((∀ i, b ≤ i → i < 8 * n → slotN sl i = 0) → decide (Rt ⟨num, (b : Int), sl, su⟩) = true) := ⟨fun h => decide_eq_true ⟨by simp, by simp; omega, by simp; omega, by simp; omega, by simpa [hlsl] using h⟩⟩
    subst h1 h2
    clear hlsl hlsu hm63 hG hN hn63
    go_enter Tryz.func202, Tryz.ntmps202
    go_wp2_with (with_reducible refine wpList_box (o := ⟨some 1, _, _, _, _, _⟩) (cs := rcL num b A n c D m e) rfl (.tmp 0) rfl rfl ?_)
    intro w1 hk1 hb1 hs1
    have e1 : w1.cell? ⟨w.heap.size, 1, none⟩ = some (.int .i64 b) := hk1.cell? 1
    have e2 : w1.cell? ⟨w.heap.size, 2, none⟩ = some (.slice A n c) := hk1.cell? 2
    have e3 : w1.cell? ⟨w.heap.size, 3, none⟩ = some (.slice D m e) := hk1.cell? 3
    have HB1 : Kp _ := ⟨hb1⟩
    have HK1 : Kp _ := ⟨hk1⟩
    clear hk1 hb1 hs1
    go_wp2_with fail
    refine wp_region_still_lit (by kernel_rfl) (by kernel_rfl) ?_
    repeat (first | still_step | still_call (g8_any b n _ HB4.out HGG.out) | still_call (p16_any b m _ HB4.out HNN.out))
    with_reducible refine wpStill_nil ?_
    change Exit.then _ _ _ _ w1.drew
    go_wp2
    go_loopw [3] (fun i wr => ∃ k : Nat, b ≤ k ∧ k ≤ 8 * n ∧ i = .int .i64 k ∧ Hid (∀ i, b ≤ i → i < k → slotN sl i = 0) ∧ Below w1.heap.size w1 wr) (fun i _ => 8 * n - (intOf i).toNat)
    case atStart => exact ⟨b, Nat.le_refl _, hGb.1, rfl, (fun i h1 h2 => absurd h2 (by omega)), (Below.refl _ _).drew⟩
    case round =>
     obtain ⟨k, hbk, hk, rfl, hz, hbr⟩ := hrel
     have HZ : Kp _ := ⟨hz⟩
     have hlt1 : w.heap.size < w1.heap.size := HK1.out.lt
     have HKr : Kp _ := ⟨HK1.out.below hbr hlt1⟩
     have HBr : Kp (Below w.heap.size w wr) := ⟨HB1.out.trans (hbr.mono (Nat.le_of_lt hlt1))⟩
     have HBr1 : Kp _ := ⟨hbr⟩
     have e2 : wr.cell? ⟨w.heap.size, 2, none⟩ = some (.slice A n c) := HKr.out.cell? 2
     clear hz hbr e1 e3
     by_cases hlt : k < 8 * n
     ·have HRr : Kp (Rs wr wr.heap.size A n c D m e ⟨num, (b : Int), sl, su⟩) := ⟨(HR.out.below HBr.out).more HBr.out.size⟩
      have HK9 : Kp (-9223372036854775808 ≤ (k : Int) ∧ (k : Int) < 9223372036854775808) := ⟨by omega⟩
      by_cases hs : slotN sl k = 0
      ·have HV : Kp (slotI sl (k : Int) = 0) := ⟨by rw [slotI_nat, hs]⟩
       have HZ2 : Kp (∀ i, b ≤ i → i < k + 1 → slotN sl i = 0) := ⟨fun i h1 h2 => by
        rcases Nat.lt_or_ge i k with h3 | h3
        ·exact HZ.out i h1 h3
        ·obtain rfl : i = k := by omega
         exact hs⟩
       clear hs HZ
       go_wp2_with (with_reducible refine wpList_loadAll (o := ⟨some 38, _, _, _, _, _⟩) rwSeal rfl (.tmp 1) rfl rfl HKr.out rfl ?_)
       refine (slot_any ⟨num, (b : Int), sl, su⟩ A n c D m e (k : Int) wr HRr.out HK9.out).mono ?_
       rintro x w2 ⟨rfl, hb2⟩
       have hx : slotI (Rc.sl ⟨num, (b : Int), sl, su⟩) (k : Int) = 0 := HV.out
       rw [hx]
       have HB2 : Kp (Below w1.heap.size w1 w2) := ⟨HBr1.out.trans (hb2.mono HBr1.out.size)⟩
       clear hx hb2 e2
       go_wp2
       go_roundw
       case rel => exact ⟨k + 1, by omega, by omega, by go_num, HZ2.out, HB2.out⟩
       case measure => simp [intOf]; omega
      ·have HG : Kp (decide (Rt ⟨num, (b : Int), sl, su⟩) = false) := ⟨rt_bit k (by simpa using hbk) (by simp [HLn.out]; exact hlt) hs⟩
       obtain ⟨v, hv⟩ : ∃ v, slotN sl k = v := ⟨_, rfl⟩
       have hv0 : ¬ v = 0 := by rw [← hv]; exact hs
       have hv2 : v < 2 := by rw [← hv]; exact Nat.mod_lt _ (by omega)
       have HV : Kp (slotI sl (k : Int) = v) := ⟨by rw [slotI_nat, hv]⟩
       clear hs hv HZ
       go_wp2_with (with_reducible refine wpList_loadAll (o := ⟨some 38, _, _, _, _, _⟩) rwSeal rfl (.tmp 1) rfl rfl HKr.out rfl ?_)
       refine (slot_any ⟨num, (b : Int), sl, su⟩ A n c D m e (k : Int) wr HRr.out HK9.out).mono ?_
       rintro x w2 ⟨rfl, hb2⟩
       have hx : slotI (Rc.sl ⟨num, (b : Int), sl, su⟩) (k : Int) = v := HV.out
       rw [hx]
       have HB2 : Kp (Below w.heap.size w w2) := ⟨HBr.out.trans (hb2.mono HBr.out.size)⟩
       clear hx hb2 e2
       go_wp2
       go_ret
       exact ⟨ret_eq (by rw [HG.out]; rfl), HB2.out⟩
     ·obtain rfl : k = 8 * n := by omega
      go_wp2
      go_ret
      exact ⟨ret_eq (by rw [HRT.out HZ.out]; rfl), HBr.out⟩
   ·have HG : Kp (decide (Rt ⟨num, (b : Int), sl, su⟩) = false) := ⟨rt_su (by simp; omega)⟩
    subst h1
    clear hlsl hlsu hG hN hn63
    go_enter Tryz.func202, Tryz.ntmps202
    go_wp2_with (with_reducible refine wpList_box (o := ⟨some 1, _, _, _, _, _⟩) (cs := rcL num b A n c D m e) rfl (.tmp 0) rfl rfl ?_)
    intro w1 hk1 hb1 hs1
    have e1 : w1.cell? ⟨w.heap.size, 1, none⟩ = some (.int .i64 b) := hk1.cell? 1
    have e2 : w1.cell? ⟨w.heap.size, 2, none⟩ = some (.slice A n c) := hk1.cell? 2
    have e3 : w1.cell? ⟨w.heap.size, 3, none⟩ = some (.slice D m e) := hk1.cell? 3
    have HB1 : Kp _ := ⟨hb1⟩
    clear hk1 hb1 hs1
    go_wp2_with fail
    refine wp_region_still_lit (by kernel_rfl) (by kernel_rfl) ?_
    repeat (first | still_step | still_call (g8_any b n _ HB4.out HGG.out) | still_call (p16_any b N _ HB4.out HNN.out))
    with_reducible refine wpStill_nil ?_
    go_wp2
    go_ret
    exact ⟨ret_eq (by rw [HG.out]; rfl), HB1.out.drew⟩
  ·have HG : Kp (decide (Rt ⟨num, (b : Int), sl, su⟩) = false) := ⟨rt_sl (by simp; omega)⟩
   have hq : ((n : Int) != (G : Int)) = true := by simp; omega
   clear hlsl hlsu hG hN hm63
   go_enter Tryz.func202, Tryz.ntmps202
   go_wp2_with (with_reducible refine wpList_box (o := ⟨some 1, _, _, _, _, _⟩) (cs := rcL num b A n c D m e) rfl (.tmp 0) rfl rfl ?_)
   intro w1 hk1 hb1 hs1
   have e1 : w1.cell? ⟨w.heap.size, 1, none⟩ = some (.int .i64 b) := hk1.cell? 1
   have e2 : w1.cell? ⟨w.heap.size, 2, none⟩ = some (.slice A n c) := hk1.cell? 2
   have HB1 : Kp _ := ⟨hb1⟩
   clear hk1 hb1 hs1
   go_wp2_with fail
   refine wp_region_still_lit (by kernel_rfl) (by kernel_rfl) ?_
   repeat (first | (with_reducible refine wpStill_step (fun K hK => ?_); go_simp; with_reducible refine hK _ ?_; clear hK K) | still_call (g8_any b G _ HB4.out HGG.out))
   with_reducible refine wpStill_nil ?_
   go_wp2
   go_ret
   exact ⟨ret_eq (by rw [HG.out]; rfl), HB1.out.drew⟩
end Go.Proofs.YtcehkafddlfleaaGreatDoor

namespace Go.Proofs.YtcehkafddlfleaaGreatDoor
open Go.RowKit
theorem grown_belowK {e : TypeId} {size base n : Nat} {v : Value} {xs : List Value} {w1 w2 : World} (hown : w1.ownsRow base e size v n xs) (hbase : base ≤ w1.heap.size) (hg : w1.grownBy w2 v.ownBlock) : Below base w1 w2 := by
 refine ⟨hg.os, hg.tape, hg.output, hg.size, fun k hk => hg.block k (by omega) (fun e => ?_)⟩
 rcases hown.2 with ⟨rfl, _⟩ | ⟨g, cap, cur, rfl, hb, _⟩
 ·cases e
 ·have := Option.some.inj e
  simp at this
  omega
theorem nil_own (w : World) (base : Nat) (e : TypeId) (size : Nat) : w.ownsRow base e size (.slice none 0 0) 0 [] := ⟨by simp, .inl ⟨rfl, rfl⟩⟩
section
variable {P : Program} {w : World} {ops : Array Oper} {rest : List Oper} {o : Oper} {a : Act} {Q : Exit → Act → World → Prop} {t e : TypeId} {z : Value} {bytes size : Nat}
theorem wpList_appK (ht : P.underlying t = some (.slice e)) (hinf : (P.info? e).map (fun i => (i.zero, i.size, i.bytes)) = some (some z, size, bytes)) (hzs : z.cells.size = size) (hpos : 0 < size) (hgd : o.guard = none) (s x : Operand)
  (ho : o.op = .call { callee := .builtin .append, args := #[s, x], argTypes := #[t, t] })
  (base : Nat) (v : Value) (n : Nat) (xs : List Value) (hs : a.eval s = v) (hown : w.ownsRow base e size v n xs)
  (ad : Addr) (m c : Nat) (ys : List Value) (hx : a.eval x = .slice (some ad) m c) (hl : ys.length = m * size) (hsrc : ∀ j u, ys[j]? = some u → w.cell? (ad.add j) = some u) (h1 : ∀ u ∈ ys, u.oneCell' = true)
  (h63 : n + m ≤ maxLen) (hbytes : (n + m) * bytes ≤ 140737488355328) (hbase : base ≤ w.heap.size)
  (h : ∀ v' w', w'.ownsRow base e size v' (n + m) (xs ++ ys) → Below base w w' → wpList P ops Q rest (a.put o.dst v') w') :
  wpList P ops Q (o :: rest) a w := by
 obtain ⟨i, hi, hz, hsize, hby⟩ := info_parts hinf
 exact wpList_append_own_at w hgd s x t ho base e i z size bytes ht hi hz hsize hby hzs hpos v n _ hs hown ad m c ys hx hl hsrc h1 h63 hbytes hbase
   (fun v' w' h2 h3 _ _ => h v' w' h2 (grown_belowK hown hbase h3))
end
noncomputable def zDig : Value := .agg zero32.toArray
theorem infDig : (Tryz.prog.info? 173).map (fun i => (i.zero, i.size, i.bytes)) = some (some zDig, 32, 32) := by kernel_rfl
theorem zDig_size : zDig.cells.size = 32 := by kernel_rfl
set_option maxRecDepth 100000 in
set_option maxHeartbeats 400000 in
theorem clone8_any (A : Option Addr) (n c : Nat) (l : List UInt8) (w : World) (ha : Bs w w.heap.size A n c l) (hn : n ≤ 4294967296) :
  Calls Tryz.prog 209 #[.slice A n c] w fun e w' => ∃ v, e = .returned v ∧ w'.ownsRow w.heap.size 5 1 v n (cells8 l) ∧ Below w.heap.size w w' := by
 have HA : Kp _ := ⟨ha⟩
 have HL : Kp _ := ⟨ha.len⟩
 have heq := fun w => Lib.run_eql_slice_nil (P := Tryz.prog) w 29 5 A n c 0 0 Tryz.underlying29
 cases hA : A with
 | none =>
  have h0 : n = 0 := by have := ha.nil hA; have := ha.cap; omega
  have hl : l = [] := List.eq_nil_of_length_eq_zero (by have := ha.len; omega)
  have hc : c = 0 := ha.nil hA
  rw [hA] at heq
  clear ha HA HL hA
  subst h0 hl hc
  go_enter Tryz.func209, Tryz.ntmps209
  go_wp2
  go_ret
  exact ⟨_, rfl, own_nil _ _ _, Below.refl _ _⟩
 | some ad =>
  subst hA
  clear ha
  have hb1 : Below w.heap.size w (w.alloc (.cells #[] 5)) := (Below.refl _ _).alloc (Nat.le_refl _) _
  have HO : Kp ((w.alloc (.cells #[] 5)).ownsRow w.heap.size 5 1 (.slice (some ⟨w.heap.size, 0, none⟩) 0 0) 0 []) :=
   ⟨rfl, .inr ⟨w.heap.size, 0, #[], rfl, Nat.le_refl _, by show (w.heap.push _)[w.heap.size]? = _; simp, Nat.le_refl _, Nat.zero_le _, rfl, rfl⟩⟩
  have HA1 : Kp _ := ⟨HA.out.below hb1⟩
  go_enter Tryz.func209, Tryz.ntmps209
  go_wp2_with (at_builtin; refine wpList_app el8 rfl _ _ rfl w.heap.size _ 0 [] rfl HO.out (some ad) n c (cells8 l) rfl (by rw [cells8_length, HL.out]) (fun h => by cases h) HA1.out.news (cells8_one _) (by simp only [maxLen]; omega) (by omega) (by simp) ?_)
  intro v2 w2 hown2 hg2 _
  have hb2 : Below w.heap.size w w2 := hb1.trans (grown_belowK HO.out (by simp) hg2)
  have H2 : Kp (w2.ownsRow w.heap.size 5 1 v2 n (cells8 l)) := ⟨by simpa using hown2⟩
  clear hown2 hg2
  go_wp2
  go_ret
  exact ⟨_, rfl, H2.out, hb2⟩
set_option maxRecDepth 100000 in
set_option maxHeartbeats 400000 in
theorem clone32_any (A : Option Addr) (n c : Nat) (l : List (List UInt8)) (w : World) (ha : Ds w w.heap.size A n c l) (hn : n ≤ 1000000) :
  Calls Tryz.prog 154 #[.slice A n c] w fun e w' => ∃ v, e = .returned v ∧ w'.ownsRow w.heap.size 173 32 v n (cells8 l.flatten) ∧ Below w.heap.size w w' := by
 have HA : Kp _ := ⟨ha⟩
 have HL : Kp _ := ⟨ha.len⟩
 have heq := fun w => Lib.run_eql_slice_nil (P := Tryz.prog) w 61 173 A n c 0 0 Tryz.underlying61
 cases hA : A with
 | none =>
  have h0 : n = 0 := by have := ha.nil hA; have := ha.cap; omega
  have hl : l = [] := List.eq_nil_of_length_eq_zero (by have := ha.len; omega)
  have hc : c = 0 := ha.nil hA
  rw [hA] at heq
  clear ha HA HL hA
  subst h0 hl hc
  go_enter Tryz.func154, Tryz.ntmps154
  go_wp2
  go_ret
  exact ⟨_, rfl, nil_own _ _ _ _, Below.refl _ _⟩
 | some ad =>
  subst hA
  have HW : Kp ((cells8 l.flatten).length = n * 32) := ⟨by rw [cells8_length, flat_len l ha.wide, ha.len]⟩
  clear ha
  have hb1 : Below w.heap.size w (w.alloc (.cells #[] 173)) := (Below.refl _ _).alloc (Nat.le_refl _) _
  have HO : Kp ((w.alloc (.cells #[] 173)).ownsRow w.heap.size 173 32 (.slice (some ⟨w.heap.size, 0, none⟩) 0 0) 0 []) :=
   ⟨⟨rfl, .inr ⟨w.heap.size, 0, #[], rfl, Nat.le_refl _, by show (w.heap.push _)[w.heap.size]? = _; simp, Nat.le_refl _, Nat.zero_le _, rfl, rfl⟩⟩⟩
  have HA1 : Kp _ := ⟨HA.out.below hb1⟩
  go_enter Tryz.func154, Tryz.ntmps154
  go_wp2_with (at_builtin; refine wpList_appK Tryz.underlying61 infDig zDig_size (by decide) rfl _ _ rfl w.heap.size _ 0 [] rfl HO.out ad n c (cells8 l.flatten) rfl HW.out (HA1.out.news ad rfl) (cells8_one _) (by simp only [maxLen]; omega) (by omega) (by simp) ?_)
  intro v2 w2 hown2 hg2
  have hb2 : Below w.heap.size w w2 := hb1.trans hg2
  have H2 : Kp (w2.ownsRow w.heap.size 173 32 v2 n (cells8 l.flatten)) := ⟨by simpa using hown2⟩
  clear hown2 hg2
  go_wp2
  go_ret
  exact ⟨_, rfl, H2.out, hb2⟩
end Go.Proofs.YtcehkafddlfleaaGreatDoor

namespace Go.Proofs.YtcehkafddlfleaaGreatDoor
open Go.RowKit
def markL : List UInt8 := [83, 69, 65, 76]
def bodyL (r : Rc) : List UInt8 := markL ++ putN r.num 8 ++ putN r.blk.toNat 4 ++ r.sl ++ r.su.flatten
def encL (key : List UInt8) (r : Rc) : List UInt8 := bodyL r ++ hmacL key (bodyL r)
def cutsL (b : List UInt8) (k : Nat) : List (List UInt8) := (List.range k).map fun i => (b.drop (i * 32)).take 32
def readL (b : List UInt8) : Rc :=
 let blk := getN ((b.drop 12).take 4)
 let g := (groupsI blk 8).toNat
 let rest := b.drop (16 + g)
 ⟨getN ((b.drop 4).take 8), blk, (b.drop 16).take g, cutsL rest (min (partsI blk).toNat (rest.length / 32))⟩
structure Rg (r : Rc) : Prop where
 num : r.num < 18446744073709551616
 wide : ∀ d ∈ r.su, d.length = 32
def IsEnc (key b : List UInt8) (r : Rc) : Prop := Rg r ∧ Rt r ∧ encL key r = b
open Classical in
noncomputable def decO (key b : List UInt8) : Option Rc := if h : ∃ r, IsEnc key b r then some h.choose else none
theorem bodyL_len (r : Rc) (h : Rg r) : (bodyL r).length = 16 + r.sl.length + 32 * r.su.length := by
 unfold bodyL
 rw [List.length_append, List.length_append, List.length_append, List.length_append, putN_length, putN_length, flat_len _ h.wide]
 simp [markL]; omega
theorem encL_len (key : List UInt8) (r : Rc) (h : Rg r) : (encL key r).length = 48 + r.sl.length + 32 * r.su.length := by
 unfold encL
 rw [List.length_append, bodyL_len r h]
 unfold hmacL
 rw [shaL_len]; omega
theorem groups8 (b : Nat) : (groupsI (b : Int) 8).toNat = (b + 7) / 8 := by unfold groupsI; split <;> omega
theorem parts16 (b : Nat) : (partsI (b : Int)).toNat = (b + 15) / 16 := by unfold partsI; split <;> omega
theorem cutsL_flat (ds : List (List UInt8)) (h : ∀ d ∈ ds, d.length = 32) (t : List UInt8) : cutsL (ds.flatten ++ t) ds.length = ds := by
 unfold cutsL
 refine List.ext_getElem (by simp) fun i h1 h2 => ?_
 have hf := flat_len ds h
 simp only [List.getElem_map, List.getElem_range]
 rw [List.drop_append, List.take_append]
 rw [flat_at ds h i h2, List.length_drop, show 32 - (ds.flatten.length - i * 32) = 0 by omega, List.take_zero, List.append_nil]
theorem readL_body (r : Rc) (hg : Rg r) (ht : Rt r) (t : List UInt8) : readL (bodyL r ++ t) = r := by
 obtain ⟨num, blk, sl, su⟩ := r
 obtain ⟨b, rfl⟩ : ∃ b : Nat, blk = (b : Int) := ⟨blk.toNat, by have := ht.lo; simp at this ⊢; omega⟩
 have hsl : sl.length = (b + 7) / 8 := by simpa using ht.sl
 have hsu : su.length = (b + 15) / 16 := by simpa using ht.su
 have hb : b ≤ 4096 := by have := ht.hi; simp at this; omega
 have hw : ∀ d ∈ su, d.length = 32 := hg.wide
 have hnum : num < 18446744073709551616 := hg.num
 have e0 : bodyL ⟨num, (b : Int), sl, su⟩ ++ t = markL ++ (putN num 8 ++ (putN b 4 ++ (sl ++ (su.flatten ++ t)))) := by simp [bodyL, List.append_assoc]
 rw [e0]
 have m4 : markL.length = 4 := rfl
 have p8 := putN_length num 8
 have p4 := putN_length b 4
 have d4 : (markL ++ (putN num 8 ++ (putN b 4 ++ (sl ++ (su.flatten ++ t))))).drop 4 = putN num 8 ++ (putN b 4 ++ (sl ++ (su.flatten ++ t))) := List.drop_left' m4
 have d12 : (markL ++ (putN num 8 ++ (putN b 4 ++ (sl ++ (su.flatten ++ t))))).drop 12 = putN b 4 ++ (sl ++ (su.flatten ++ t)) := by
  rw [show 12 = 4 + 8 by rfl, ← List.drop_drop, d4]; exact List.drop_left' p8
 have d16 : (markL ++ (putN num 8 ++ (putN b 4 ++ (sl ++ (su.flatten ++ t))))).drop 16 = sl ++ (su.flatten ++ t) := by
  rw [show 16 = 12 + 4 by rfl, ← List.drop_drop, d12]; exact List.drop_left' p4
 have g4 : getN ((putN b 4 ++ (sl ++ (su.flatten ++ t))).take 4) = b := by
  rw [List.take_left' p4, getN_putN]
  exact Nat.mod_eq_of_lt (by omega)
 have g8 : getN ((putN num 8 ++ (putN b 4 ++ (sl ++ (su.flatten ++ t)))).take 8) = num := by
  rw [List.take_left' p8, getN_putN]
  exact Nat.mod_eq_of_lt (by omega)
 have dr : (markL ++ (putN num 8 ++ (putN b 4 ++ (sl ++ (su.flatten ++ t))))).drop (16 + (b + 7) / 8) = su.flatten ++ t := by
  rw [← List.drop_drop, d16]; exact List.drop_left' hsl
 unfold readL
 simp only [d4, d12, d16, g4, g8, groups8, parts16, dr]
 have hf := flat_len su hw
 rw [← hsl, List.take_left, ← hsu, Nat.min_eq_left (by rw [List.length_append, hf]; omega), cutsL_flat su hw]
theorem readL_enc (key : List UInt8) (r : Rc) (hg : Rg r) (ht : Rt r) : readL (encL key r) = r := readL_body r hg ht _
theorem decO_of (key b : List UInt8) (r : Rc) (h : IsEnc key b r) : decO key b = some r := by
 have hx : ∃ r, IsEnc key b r := ⟨r, h⟩
 unfold decO
 rw [dif_pos hx]
 have h1 := hx.choose_spec
 rw [← readL_enc key r h.1 h.2.1, h.2.2, ← readL_enc key hx.choose h1.1 h1.2.1, h1.2.2]
theorem decO_none (key b : List UInt8) (h : ¬ ∃ r, IsEnc key b r) : decO key b = none := by
 unfold decO; rw [dif_neg h]
theorem decO_read (key b : List UInt8) : (decO key b = none ∧ ¬ IsEnc key b (readL b)) ∨ (decO key b = some (readL b) ∧ IsEnc key b (readL b)) := by
 by_cases h : IsEnc key b (readL b)
 ·exact .inr ⟨decO_of _ _ _ h, h⟩
 ·refine .inl ⟨decO_none _ _ fun ⟨r, hr⟩ => h ?_, h⟩
  have : readL b = r := by rw [← hr.2.2]; exact readL_enc key r hr.1 hr.2.1
  rw [this]; exact hr
noncomputable def pickO (key : List UInt8) (n : Nat) (l : List (List UInt8)) : Option Rc := (l.filterMap (decO key)).find? fun r => r.num = n
noncomputable def chooseO (key : List UInt8) (n : Nat) (l : List (List UInt8)) : Option Rc :=
 ((if n + 1 < 18446744073709551616 then pickO key (n + 1) l else none).or (pickO key n l))
end Go.Proofs.YtcehkafddlfleaaGreatDoor
