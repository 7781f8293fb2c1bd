/- 
   
   
   
   
    -/
import Derived.Test.YtcehkafddlfleaaGreatDoorG01
import Derived.Test.YtcehkafddlfleaaGreatDoorG04
import Derived.Test.YtcehkafddlfleaaGreatDoorG14
import Derived.Laws.Externs
import Derived.Shelf.Spec.BitsCarry
import Derived.Deep.LoopGhost
import Derived.Test.YtcehkafddlfleaaGreatDoorG05
import Derived.Test.YtcehkafddlfleaaGreatDoorG02
import Derived.Test.YtcehkafddlfleaaGreatDoorG16
import Derived.Test.YtcehkafddlfleaaGreatDoorG08
namespace Go.Proofs.YtcehkafddlfleaaGreatDoor
open Go.RowKit
def addL (a b : List UInt8) : List UInt8 := putN (getN a + getN b) 32
theorem addL_length (a b : List UInt8) : (addL a b).length = 32 := putN_length _ _
theorem getN_inj {a b : List UInt8} (h : a.length = b.length) (e : getN a = getN b) : a = b := by
 rw [← putN_getN a, ← putN_getN b, e, h]
theorem getN_lt32 {a : List UInt8} (h : a.length = 32) : getN a < 256 ^ 32 := by have := getN_lt a; rwa [h] at this
theorem putN_mod (n k : Nat) : putN (n % 256 ^ k) k = putN n k := by
 refine getN_inj (by rw [putN_length, putN_length]) ?_
 rw [getN_putN, getN_putN, Nat.mod_mod]
theorem addL_val (a b : List UInt8) : getN (addL a b) = (getN a + getN b) % 256 ^ 32 := getN_putN _ _
theorem eq32 {a b : List UInt8} (ha : a.length = 32) (hb : b.length = 32) (e : getN a = getN b) : a = b := getN_inj (ha.trans hb.symm) e
theorem addL_comm (a b : List UInt8) : addL b a = addL a b := by unfold addL; rw [Nat.add_comm]
theorem addL_assoc {a b c : List UInt8} : addL (addL a b) c = addL a (addL b c) := by
 refine eq32 (addL_length _ _) (addL_length _ _) ?_
 rw [addL_val, addL_val, addL_val, addL_val]
 generalize getN a = x; generalize getN b = y; generalize getN c = z
 rw [Nat.mod_add_mod, Nat.add_mod_mod, Nat.add_assoc]
def z32 : List UInt8 := List.replicate 32 0
theorem z32_length : z32.length = 32 := by decide
def numCells (l : List Nat) : List Value := l.map fun (n : Nat) => Value.int .u64 (n : Int)
theorem numCells_length (l : List Nat) : (numCells l).length = l.length := by simp [numCells]
theorem numCells_one (l : List Nat) : ∀ u ∈ numCells l, u.oneCell' = true := by
 intro u hu
 obtain ⟨_, _, rfl⟩ := List.mem_map.1 hu
 rfl
def dg (n i : Nat) : Nat := n / 2 ^ (64 * i) % 2 ^ 64
theorem dg_lt (n i : Nat) : dg n i < 18446744073709551616 := Nat.mod_lt _ (by decide)
def W4 (n : Nat) : List Nat := (List.range 4).map (dg n)
theorem W4_length (n : Nat) : (W4 n).length = 4 := by simp [W4]
def part4 (f g : Nat → Nat) (k : Nat) : List Nat := (List.range 4).map fun i => if i < k then f i else g i
theorem part4_length (f g : Nat → Nat) (k : Nat) : (part4 f g k).length = 4 := by simp [part4]
theorem part4_none (f : Nat → Nat) (n : Nat) : part4 f (dg n) 0 = W4 n := by
 unfold part4 W4
 exact List.map_congr_left fun i _ => by rw [if_neg (by omega)]
theorem part4_all (n : Nat) (g : Nat → Nat) : part4 (dg n) g 4 = W4 n := by
 unfold part4 W4
 exact List.map_congr_left fun i hi => by rw [if_pos (List.mem_range.1 hi)]
theorem part4_zero (f : Nat → Nat) : numCells (part4 f (fun _ => 0) 0) = List.replicate 4 (.int .u64 0) := by
 rw [List.eq_replicate_iff]
 refine ⟨by rw [numCells_length, part4_length], fun b hb => ?_⟩
 unfold numCells part4 at hb
 rw [List.map_map] at hb
 obtain ⟨j, _, rfl⟩ := List.mem_map.1 hb
 simp
theorem part4_set (f g : Nat → Nat) (k : Nat) : (numCells (part4 f g k)).set k (.int .u64 ((f k : Nat) : Int)) = numCells (part4 f g (k + 1)) := by
 unfold numCells
 rw [show (Value.int .u64 ((f k : Nat) : Int)) = (fun n : Nat => Value.int .u64 (n : Int)) (f k) from rfl, ← List.map_set]
 congr 1
 refine List.ext_getElem (by rw [List.length_set, part4_length, part4_length]) fun i h1 h2 => ?_
 rw [List.getElem_set]
 simp only [part4, List.getElem_map, List.getElem_range]
 by_cases hi : k = i
 ·subst hi; simp
 ·rw [if_neg hi]
  by_cases h3 : i < k
  ·rw [if_pos h3, if_pos (by omega)]
  ·rw [if_neg h3, if_neg (by omega)]
theorem part4_at (f g : Nat → Nat) (k i : Nat) (hi : i < 4) (hk : k ≤ i) : (numCells (part4 f g k))[i]? = some (.int .u64 ((g i : Nat) : Int)) := by
 unfold numCells part4
 rw [List.map_map, List.getElem?_map, List.getElem?_range hi]
 simp only [Option.map_some, Function.comp, if_neg (show ¬ i < k by omega)]
theorem W4_at (n i : Nat) (hi : i < 4) : (numCells (W4 n))[i]? = some (.int .u64 ((dg n i : Nat) : Int)) := by
 unfold numCells W4
 rw [List.map_map, List.getElem?_map, List.getElem?_range hi]
 rfl
def carryN (m n k : Nat) : Nat := (m % 2 ^ (64 * k) + n % 2 ^ (64 * k)) / 2 ^ (64 * k)
theorem carryN_le (m n k : Nat) : carryN m n k ≤ 1 := by
 unfold carryN
 have hp : 0 < 2 ^ (64 * k) := Nat.two_pow_pos _
 have h1 := Nat.mod_lt m hp
 have h2 := Nat.mod_lt n hp
 generalize 2 ^ (64 * k) = P at *
 have : (m % P + n % P) / P < 2 := Nat.div_lt_of_lt_mul (by omega)
 omega
theorem carryN_zero (m n : Nat) : carryN m n 0 = 0 := by unfold carryN; simp [Nat.mod_one]
theorem pow_succ64 (k : Nat) : 2 ^ (64 * (k + 1)) = 2 ^ (64 * k) * 2 ^ 64 := by rw [Nat.mul_succ, Nat.pow_add]
theorem add_parts (m n P B : Nat) (hP : 0 < P) :
  (m + n) / P % B = (m / P % B + n / P % B + (m % P + n % P) / P) % B ∧ (m % (P * B) + n % (P * B)) / (P * B) = (m / P % B + n / P % B + (m % P + n % P) / P) / B := by
 constructor
 ·have h : (m + n) / P = m / P + n / P + (m % P + n % P) / P := by
   have e1 := Nat.div_add_mod m P
   have e2 := Nat.div_add_mod n P
   have e3 : m + n = (m % P + n % P) + P * (m / P + n / P) := by rw [Nat.mul_add]; omega
   rw [e3, Nat.add_mul_div_left _ _ hP]; omega
  rw [h]
  generalize (m % P + n % P) / P = c
  rw [Nat.add_mod (m / P + n / P) c, Nat.add_mod (m / P) (n / P), Nat.add_mod (m / P % B + n / P % B) c]
 ·rw [Nat.mod_mul, Nat.mod_mul, ← Nat.div_div_eq_div_mul]
  have e3 : m % P + P * (m / P % B) + (n % P + P * (n / P % B)) = (m % P + n % P) + P * (m / P % B + n / P % B) := by rw [Nat.mul_add]; omega
  rw [e3, Nat.add_mul_div_left _ _ hP, Nat.add_comm]
theorem plus_digit (m n k : Nat) : dg (m + n) k = (dg m k + dg n k + carryN m n k) % 18446744073709551616 ∧ carryN m n (k + 1) = (dg m k + dg n k + carryN m n k) / 18446744073709551616 := by
 have h := add_parts m n (2 ^ (64 * k)) (2 ^ 64) (Nat.two_pow_pos _)
 unfold dg carryN
 rw [pow_succ64]
 exact h
theorem word_at (l : List UInt8) (hl : l.length = 32) (i : Nat) (hi : i < 4) : getN ((l.take (24 - 8 * i + 8)).drop (24 - 8 * i)) = dg (getN l) i := by
 have e1 : l = l.take (24 - 8 * i) ++ (l.take (24 - 8 * i + 8)).drop (24 - 8 * i) ++ l.drop (24 - 8 * i + 8) := by
  conv => lhs; rw [← List.take_append_drop (24 - 8 * i + 8) l]
  congr 1
  conv => lhs; rw [← List.take_append_drop (24 - 8 * i) (l.take (24 - 8 * i + 8))]
  rw [List.take_take, Nat.min_eq_left (by omega)]
 have hx : ((l.take (24 - 8 * i + 8)).drop (24 - 8 * i)).length = 8 := by simp; omega
 have hz : (l.drop (24 - 8 * i + 8)).length = 8 * i := by simp; omega
 generalize (l.take (24 - 8 * i + 8)).drop (24 - 8 * i) = x at *
 generalize l.take (24 - 8 * i) = y at *
 generalize l.drop (24 - 8 * i + 8) = z at *
 rw [e1, getN_append, getN_append, hx, hz]
 have h1 := getN_lt x
 have h2 := getN_lt z
 rw [hx] at h1
 rw [hz] at h2
 unfold dg
 rw [show 2 ^ (64 * i) = 256 ^ (8 * i) by rw [show (256 : Nat) = 2 ^ 8 from rfl, ← Nat.pow_mul]; congr 1; omega]
 generalize getN x = gx at *
 generalize getN y = gy at *
 generalize getN z = gz at *
 rw [show (gy * 256 ^ 8 + gx) * 256 ^ (8 * i) + gz = gz + 256 ^ (8 * i) * (gy * 256 ^ 8 + gx) by rw [Nat.mul_comm (256 ^ (8 * i))]; omega, Nat.add_mul_div_left _ _ (Nat.pow_pos (by decide)), Nat.div_eq_of_lt h2, Nat.zero_add]
 have e8 : (256 : Nat) ^ 8 = 18446744073709551616 := by decide
 rw [e8] at h1
 rw [e8, Nat.mul_comm, Nat.add_comm, Nat.add_mul_mod_self_left, Nat.mod_eq_of_lt h1]
def tailL (n k : Nat) : List UInt8 := List.replicate (32 - 8 * k) 0 ++ putN n (8 * k)
theorem tailL_length (n k : Nat) (hk : k ≤ 4) : (tailL n k).length = 32 := by simp [tailL, putN_length]; omega
theorem putN_split (n a b : Nat) : putN n (a + b) = putN (n / 256 ^ b) a ++ putN n b := by
 refine getN_inj (by simp [putN_length]) ?_
 rw [getN_putN, getN_append, getN_putN, getN_putN, putN_length, Nat.pow_add]
 rw [Nat.mul_comm (256 ^ a), Nat.mod_mul, Nat.mul_comm (256 ^ b), Nat.add_comm]
theorem dg_put (n k : Nat) : putN (dg n k) 8 = putN (n / 256 ^ (8 * k)) 8 := by
 unfold dg
 rw [show 2 ^ (64 * k) = 256 ^ (8 * k) by rw [show (256 : Nat) = 2 ^ 8 from rfl, ← Nat.pow_mul]; congr 1; omega, show 2 ^ 64 = 256 ^ 8 from rfl, putN_mod]
theorem tail_next (n k : Nat) (hk : k < 4) : (tailL n k).take (24 - 8 * k) ++ (putN (dg n k) 8 ++ (tailL n k).drop (24 - 8 * k + 8)) = tailL n (k + 1) := by
 unfold tailL
 rw [List.take_append_of_le_length (by simp; omega), List.take_replicate, Nat.min_eq_left (by omega), List.drop_append_of_le_length (by simp; omega), List.drop_replicate]
 rw [show 32 - 8 * k - (24 - 8 * k + 8) = 0 by omega, List.replicate_zero, List.nil_append, show 32 - 8 * (k + 1) = 24 - 8 * k by omega, show 8 * (k + 1) = 8 + 8 * k by omega, putN_split, dg_put]
theorem tail_none (n : Nat) : cells8 (tailL n 0) = List.replicate 32 (.int .u8 0) := by
 unfold tailL cells8
 rw [show putN n (8 * 0) = [] from rfl, List.append_nil, List.map_replicate]; rfl
theorem tail_all (n : Nat) : tailL n 4 = putN n 32 := by
 unfold tailL
 rw [show 32 - 8 * 4 = 0 from rfl, List.replicate_zero, List.nil_append]
end Go.Proofs.YtcehkafddlfleaaGreatDoor

namespace Go.Proofs.YtcehkafddlfleaaGreatDoor
open Go.RowKit
theorem add64_run (x y c s d : Nat) (hc : c ≤ 1) (hs : s = (x + y + c) % 18446744073709551616) (hd : d = (x + y + c) / 18446744073709551616) (w : World) :
  (callFunc 236 #[.int .u64 (x : Int), .int .u64 (y : Int), .int .u64 (c : Int)]).run Tryz.prog w = .ok (.value (.tuple #[.int .u64 (s : Int), .int .u64 (d : Int)])) w := by
 subst hs hd
 rw [run_callFunc_extern Tryz.func236 (by kernel_rfl) (by kernel_rfl) (by kernel_rfl) (e := add64Entry) (by kernel_rfl), run_add64 x y c (by omega) (by omega) (by omega) (by omega)]
 simp only [Result.andThen]
 congr 5 <;> omega
def zeroW4 : List Value := List.replicate 4 (.int .u64 0)
theorem tyWords : Ty Tryz.prog 296 zeroW4 := ⟨by kernel_rfl⟩
theorem rwWords : Rw Tryz.prog 296 (.array 4 40) 4 := ⟨by kernel_rfl, rfl, by kernel_rfl⟩
theorem plain64 : Plain1 Tryz.prog 40 := ⟨by kernel_rfl, by kernel_rfl⟩
theorem plus_parts (m n k : Nat) : ∃ x y c s d : Nat, c ≤ 1 ∧ Kp (dg m k = x) ∧ Kp (dg n k = y) ∧ Kp (carryN m n k = c) ∧ Kp (dg (m + n) k = s) ∧ Kp (carryN m n (k + 1) = d) ∧
  ∀ w, (callFunc 236 #[.int .u64 (x : Int), .int .u64 (y : Int), .int .u64 (c : Int)]).run Tryz.prog w = .ok (.value (.tuple #[.int .u64 (s : Int), .int .u64 (d : Int)])) w :=
 ⟨_, _, _, _, _, carryN_le m n k, ⟨rfl⟩, ⟨rfl⟩, ⟨rfl⟩, ⟨rfl⟩, ⟨rfl⟩, fun w => add64_run _ _ _ _ _ (carryN_le m n k) (plus_digit m n k).1 (plus_digit m n k).2 w⟩
end Go.Proofs.YtcehkafddlfleaaGreatDoor

namespace Go.Proofs.YtcehkafddlfleaaGreatDoor
open Go.RowKit
set_option maxHeartbeats 400000 in
theorem get5_any (A : Option Addr) (n c : Nat) (xs : List UInt8) (w : World) (L : Nat) (ha : Bs w L A n c xs) :
  Calls Tryz.prog 208 #[.slice A n c] w fun e w' => e = .returned (.int .u64 (getN (xs.drop (n - 8)))) ∧ w = w' := by
 have hn := ha.le
 go_enter Tryz.func208, Tryz.ntmps208
 rcases (by omega : 8 ≤ n ∨ n < 8) with h8 | h8
 all_goals
  go_wp2_with (with_reducible refine wpList_cut_l (o := ⟨some 11, _, _, _, _, _⟩) el8 rfl _ _ rfl rfl ha _ _ (n - 8) rfl (by omega) (by omega) ?_)
  intro A' m d hb
  have hlen : (xs.drop (n - 8)).length ≤ 8 := by have := ha.len; simp; omega
  generalize hys : xs.drop (n - 8) = ys at *
  have HYS := Lib.hid hys
  clear hys
  have hm := hb.le
  have HML := Lib.hid hb.len
  go_wp2
  go_loop [3, 13] (fun s i => ∃ k : Nat, k ≤ m ∧ i = .int .i64 k ∧ s = .int .u64 (getN (ys.take k))) (fun _ i => m - (intOf i).toNat)
  case atStart => exact ⟨0, Nat.zero_le _, rfl, rfl⟩
  case round =>
   obtain ⟨k, hk, rfl, rfl⟩ := hrel
   by_cases hlt : k < m
   ·obtain ⟨b, o, rfl, _, hc⟩ := hb.cell hlt
    have hky : k < ys.length := by rw [HML.out]; exact hlt
    have hs := getN_take_succ ys k hky
    have hl8 := getN_lt8 (ys.take (k + 1)) (by simp; omega)
    have HS := Lib.hid (get_step (getN (ys.take k)) (ys[k].toNat) (UInt8.toNat_lt _) (by omega))
    have HS2 := Lib.hid hs
    clear hs hl8
    go_wp2
    go_round
    case rel => exact ⟨k + 1, by omega, by go_num, by rw [HS.out, HS2.out]⟩
    case measure => simp [intOf]; omega
   ·go_wp2
    go_ret
    exact ⟨ret_eq (by rw [List.take_of_length_le (by rw [HML.out]; omega), HYS.out]; rfl), rfl⟩
theorem sstart_any (i : Nat) (w : World) (hi : i < 4) : Calls Tryz.prog 235 #[.int .i64 (i : Int)] w fun e w' => e = .returned (.int .i64 ((24 - 8 * i : Nat) : Int)) ∧ w' = w := by
 obtain ⟨j, hj⟩ : ∃ j : Nat, j = 24 - 8 * i := ⟨_, rfl⟩
 rw [← hj]
 have hji : ((3 : Int) - i) * 8 = (j : Int) := by omega
 have HJ : Kp _ := ⟨hj⟩
 clear hj
 go_enter Tryz.func235, Tryz.ntmps235
 go_wp2
 go_ret
 exact ⟨rfl, rfl⟩
theorem dig_parts : (Tryz.prog).underlying 173 = some (.array ((Tryz.prog).arrayLen 173) ((Tryz.prog).elem 173)) ∧ (Tryz.prog).arrayLen 173 = 32 ∧ (Tryz.prog).elem 173 = 5 ∧ ((Tryz.prog).info? 5).map (·.size) = some 1 := ⟨by kernel_rfl, by kernel_rfl, by kernel_rfl, by kernel_rfl⟩
theorem dig_slice_lh (g s : Nat) (hs : s ≤ 24) (W : World) : (Instr.sliceAt 173 (.pointer (some ⟨g, 0, none⟩)) (some (.int .i64 (s : Int))) (some (.int .i64 ((s : Int) + 8))) none).run Tryz.prog W = .ok (.slice (some ⟨g, s, none⟩) 8 (32 - s)) W := by
 obtain ⟨h1, h2, h3, h4⟩ := dig_parts
 rw [run_sliceAt_array_lh W _ ⟨g, 0, none⟩ h1 .i64 .i64 (s : Int) ((s : Int) + 8) (by omega) (by omega) (by rw [h2]; omega), h2, h3]
 cases hq : (Tryz.prog).info? 5 with
 | none => simp [hq] at h4
 | some i =>
  have hsz : i.size = 1 := by simpa [hq] using h4
  have e1 : ((s : Int) + 8).toNat = s + 8 := by omega
  simp [Go.sizeOf, typeInfo, hq, hsz, slicedAt, Addr.add, e1, if_neg (show ¬ 32 = s by omega)]
  try omega
theorem dig_slice_l (g s : Nat) (hs : s ≤ 24) (W : World) : (Instr.sliceAt 173 (.pointer (some ⟨g, 0, none⟩)) (some (.int .i64 (s : Int))) none none).run Tryz.prog W = .ok (.slice (some ⟨g, s, none⟩) (32 - s) (32 - s)) W := by
 obtain ⟨h1, h2, h3, h4⟩ := dig_parts
 rw [run_sliceAt_array_l W _ ⟨g, 0, none⟩ h1 .i64 (s : Int) (by omega) (by rw [h2]; omega), h2, h3]
 cases hq : (Tryz.prog).info? 5 with
 | none => simp [hq] at h4
 | some i =>
  have hsz : i.size = 1 := by simpa [hq] using h4
  simp [Go.sizeOf, typeInfo, hq, hsz, slicedAt, Addr.add, if_neg (show ¬ 32 = s by omega)]
  try omega
theorem cut_cells (d : List UInt8) (s n : Nat) : ((cells8 d).drop s).take n = cells8 ((d.take (s + n)).drop s) := by
 unfold cells8
 rw [← List.map_drop, ← List.map_take, List.drop_take, Nat.add_sub_cancel_left]
set_option maxRecDepth 100000 in
set_option maxHeartbeats 4000000 in
theorem split_any (d : List UInt8) (w : World) (hd : d.length = 32) : Calls Tryz.prog 199 #[.agg (cells8 d).toArray] w fun e w' => e = .returned (.agg (numCells (W4 (getN d))).toArray) ∧ Below w.heap.size w w' := by
 have HD : Kp _ := ⟨hd⟩
 have HLd : Kp ((cells8 d).length = 32) := ⟨by rw [cells8_length]; exact hd⟩
 clear hd
 go_enter Tryz.func199, Tryz.ntmps199
 go_wp2_with (with_reducible refine wpList_box (o := ⟨some 1, _, _, _, _, _⟩) rfl (.tmp 0) rfl rfl ?_)
 intro w1 hk1 hb1 hs1
 have HA1 : Kp _ := ⟨hk1⟩
 clear hk1 hs1
 go_wp2_with (with_reducible refine wpList_alloc (o := ⟨some 2, _, _, _, _, _⟩) tyWords rfl rfl ?_)
 intro w2 hk2 hb2 hs2
 have HR2 : Kp _ := ⟨hk2⟩
 have HA2 : Kp _ := ⟨HA1.out.below hb2 HA1.out.lt⟩
 have hB2 : Below w.heap.size w w2 := hb1.trans (hb2.mono hb1.size)
 have n1 : w.heap.size < w1.heap.size := HA1.out.lt
 clear hk2 hb1 hb2 hs2 HA1
 go_wp2_with (with_reducible refine wpList_alloc (o := ⟨some 3, _, _, _, _, _⟩) tyWords rfl rfl ?_)
 intro w3 hk3 hb3 hs3
 have HW3 : Kp (Blk w3 w2.heap.size 296 (numCells (part4 (dg (getN d)) (fun _ => 0) 0))) := ⟨by rw [part4_zero]; exact hk3⟩
 have HR3 : Kp _ := ⟨HR2.out.below hb3 HR2.out.lt⟩
 have HA3 : Kp _ := ⟨HA2.out.below hb3 HA2.out.lt⟩
 have hB3 : Below w.heap.size w w3 := hB2.trans (hb3.mono hB2.size)
 have n2 : w1.heap.size < w2.heap.size := HR2.out.lt
 obtain ⟨gr, hgr⟩ : ∃ g, g = w1.heap.size := ⟨_, rfl⟩
 obtain ⟨gw, hgw⟩ : ∃ g, g = w2.heap.size := ⟨_, rfl⟩
 rw [← hgr] at HR3 n1 n2
 rw [← hgw] at HW3 n2
 rw [← hgr, ← hgw]
 clear hk3 hb3 hs3 HR2 HA2 hB2 hgr hgw
 go_wp2
 go_loopg [5] 4 (fun gk vi wr => ∃ k : Nat, k + gk = 4 ∧ vi = .int .i64 k ∧ Kp (Blk wr gw 296 (numCells (part4 (dg (getN d)) (fun _ => 0) k))) ∧ Kp (Blk wr gr 296 zeroW4) ∧ Kp (Blk wr w.heap.size 173 (cells8 d)) ∧ Below w.heap.size w wr)
 case atStart => exact ⟨0, by omega, rfl, HW3, HR3, HA3, hB3⟩
 case round =>
  clear HW3 HR3 HA3 hB3
  obtain ⟨k, hk, rfl, HW, HR, HA, hB⟩ := hrel
  cases gk with
  | zero =>
   obtain rfl : k = 4 := by omega
   have HQ : Kp (Blk wr gw 296 (numCells (W4 (getN d)))) := ⟨by rw [← part4_all (getN d) (fun _ => 0)]; exact HW.out⟩
   have HLen : Kp ((numCells (W4 (getN d))).length = 4) := ⟨by rw [numCells_length, W4_length]⟩
   have HZ : Kp (zeroW4.length = 4) := ⟨rfl⟩
   generalize hL : W4 (getN d) = L at *
   have HL : Kp _ := ⟨hL⟩
   clear HW hL
   go_wp2_with (first
    | (with_reducible refine wpList_loadAll (o := ⟨some 18, _, _, _, _, _⟩) rwWords rfl (.tmp 3) rfl rfl HQ.out HLen.out ?_)
    | (with_reducible refine wpList_storeAll (o := ⟨none, _, _, _, _, _⟩) (vs := numCells L) rwWords rfl (.tmp 2) (.tmp 18) rfl rfl HR.out HZ.out HLen.out (numCells_one _) rfl ?_))
   intro w5 hk5 ho5
   have HK5 : Kp _ := ⟨hk5⟩
   clear hk5
   go_wp2
   exact ret_arr rfl rwWords rfl HK5.out HLen.out rfl ⟨by rw [HL.out], hB.trans (ho5.below (by omega))⟩
  | succ g2 =>
   have hkI : (k : Int) < 4 := by omega
   have hk4 : k < 4 := by omega
   obtain ⟨s, hs⟩ : ∃ s : Nat, s = 24 - 8 * k := ⟨_, rfl⟩
   have hs24 : s ≤ 24 := by omega
   have HWa := word_at d HD.out k hk4
   have HSt := sstart_any k wr hk4
   rw [← hs] at HWa HSt
   have HW8 : Kp _ := ⟨HWa⟩
   have HSC : Kp _ := ⟨HSt⟩
   have HSet : Kp _ := ⟨part4_set (dg (getN d)) (fun _ => 0) k⟩
   generalize dg (getN d) k = x at *
   have hco : wr.cell? ⟨gw, k, none⟩ = some (.int .u64 ((0 : Nat) : Int)) := by rw [HW.out.cell?, part4_at _ _ _ _ hk4 (Nat.le_refl _)]
   have hfo := HW.out.frozen k
   have HBs : Kp (Bs wr wr.heap.size (some ⟨w.heap.size, s, none⟩) 8 (32 - s) ((d.take (s + 8)).drop s)) := ⟨HA.out.bytes HA.out.lt (cut_cells d s 8) (by have := HD.out; simp; omega) (32 - s) (by omega) (by simp only [maxLen]; omega)⟩
   have hsl := dig_slice_lh w.heap.size s hs24 wr
   clear HWa HSt hs
   go_wp2_with fail
   refine HSC.out.mono ?_
   rintro e w5 ⟨rfl, rfl⟩
   go_wp2_with fail
   refine HSC.out.mono ?_
   rintro e w5 ⟨rfl, rfl⟩
   go_wp2_with fail
   refine (get5_any _ _ _ _ _ _ HBs.out).mono ?_
   rintro e w6 ⟨rfl, rfl⟩
   rw [Nat.sub_self, List.drop_zero, HW8.out]
   go_wp2
   go_roundg g2
   case rel =>
    refine ⟨k + 1, by omega, by go_num, ⟨?_⟩, ⟨HR.out.other (by show gr ≠ gw; omega) _⟩, ⟨HA.out.other (by show w.heap.size ≠ gw; omega) _⟩, hB.setCell (by show w.heap.size ≤ gw; omega) _⟩
    have h3 := HW.out.set k (.int .u64 (x : Int)); rw [HSet.out] at h3; exact h3
   case measure => omega
end Go.Proofs.YtcehkafddlfleaaGreatDoor

namespace Go.Proofs.YtcehkafddlfleaaGreatDoor
open Go.RowKit
set_option maxRecDepth 100000 in
set_option maxHeartbeats 4000000 in
theorem plus_any (m n : Nat) (w : World) : Calls Tryz.prog 200 #[.agg (numCells (W4 m)).toArray, .agg (numCells (W4 n)).toArray] w fun e w' => e = .returned (.agg (numCells (W4 (m + n))).toArray) ∧ Below w.heap.size w w' := by
 have HLm : Kp ((numCells (W4 m)).length = 4) := ⟨by rw [numCells_length, W4_length]⟩
 go_enter Tryz.func200, Tryz.ntmps200
 go_wp2_with (with_reducible refine wpList_box (o := ⟨some 2, _, _, _, _, _⟩) rfl (.tmp 0) rfl rfl ?_)
 intro w1 hk1 hb1 hs1
 have HK1 : Kp _ := ⟨hk1⟩
 clear hk1 hs1
 go_wp2_with (with_reducible refine wpList_box (o := ⟨some 3, _, _, _, _, _⟩) rfl (.tmp 1) rfl rfl ?_)
 intro w2 hk2 hb2 hs2
 have HN2 : Kp _ := ⟨hk2⟩
 have HA2 : Kp _ := ⟨HK1.out.below hb2 HK1.out.lt⟩
 have hB2 : Below w.heap.size w w2 := hb1.trans (hb2.mono hb1.size)
 have n1 : w.heap.size < w1.heap.size := HK1.out.lt
 clear hk2 hb1 hb2 hs2 HK1
 go_wp2_with (with_reducible refine wpList_alloc (o := ⟨some 4, _, _, _, _, _⟩) tyWords rfl rfl ?_)
 intro w3 hk3 hb3 hs3
 have HR3 : Kp _ := ⟨hk3⟩
 have HN3 : Kp _ := ⟨HN2.out.below hb3 HN2.out.lt⟩
 have HA3 : Kp (Blk w3 w.heap.size 296 (numCells (part4 (dg (m + n)) (dg m) 0))) := ⟨by rw [part4_none]; exact HA2.out.below hb3 HA2.out.lt⟩
 have hB3 : Below w.heap.size w w3 := hB2.trans (hb3.mono hB2.size)
 have n2 : w1.heap.size < w2.heap.size := HN2.out.lt
 obtain ⟨gn, hgn⟩ : ∃ g, g = w1.heap.size := ⟨_, rfl⟩
 obtain ⟨gr, hgr⟩ : ∃ g, g = w2.heap.size := ⟨_, rfl⟩
 rw [← hgn] at HN3 n1 n2
 rw [← hgr] at HR3 n2
 rw [← hgn, ← hgr]
 have HC0 : Kp _ := ⟨carryN_zero m n⟩
 clear hk3 hb3 hs3 HN2 HA2 hB2 hgn hgr
 go_wp2
 go_loopg [5, 7] 4 (fun gk vc vi wr => ∃ k : Nat, k + gk = 4 ∧ vi = .int .i64 k ∧ vc = .int .u64 ((carryN m n k : Nat) : Int) ∧ Kp (Blk wr w.heap.size 296 (numCells (part4 (dg (m + n)) (dg m) k))) ∧ Kp (Blk wr gn 296 (numCells (W4 n))) ∧ Kp (Blk wr gr 296 zeroW4) ∧ Below w.heap.size w wr)
 case atStart => exact ⟨0, by omega, rfl, by rw [HC0.out]; rfl, HA3, HN3, HR3, hB3⟩
 case round =>
  clear HA3 HN3 HR3 hB3 HC0
  obtain ⟨k, hk, rfl, rfl, HA, HN, HR, hB⟩ := hrel
  cases gk with
  | zero =>
   obtain rfl : k = 4 := by omega
   have HD : Kp (Blk wr w.heap.size 296 (numCells (W4 (m + n)))) := ⟨by rw [← part4_all (m + n) (dg m)]; exact HA.out⟩
   have HLen : Kp ((numCells (W4 (m + n))).length = 4) := ⟨by rw [numCells_length, W4_length]⟩
   have HZ : Kp (zeroW4.length = 4) := ⟨rfl⟩
   generalize hL : W4 (m + n) = L at *
   have HL : Kp _ := ⟨hL⟩
   clear HA HN hL
   go_wp2_with (first
    | (with_reducible refine wpList_loadAll (o := ⟨some 24, _, _, _, _, _⟩) rwWords rfl (.tmp 2) rfl rfl HD.out HLen.out ?_)
    | (with_reducible refine wpList_storeAll (o := ⟨none, _, _, _, _, _⟩) (vs := numCells L) rwWords rfl (.tmp 4) (.tmp 24) rfl rfl HR.out HZ.out HLen.out (numCells_one _) rfl ?_))
   intro w5 hk5 ho5
   have HK5 : Kp _ := ⟨hk5⟩
   clear hk5
   go_wp2
   exact ret_arr rfl rwWords rfl HK5.out HLen.out rfl ⟨by rw [HL.out], hB.trans (ho5.below (by omega))⟩
  | succ g2 =>
   have hkI : (k : Int) < 4 := by omega
   have hk4 : k < 4 := by omega
   obtain ⟨x, y, c, s, d, hc1, HX, HY, HCx, HS, HD, hrun⟩ := plus_parts m n k
   have hca : wr.cell? ⟨w.heap.size, k, none⟩ = some (.int .u64 (x : Int)) := by rw [HA.out.cell?, part4_at _ _ _ _ hk4 (Nat.le_refl _), HX.out]
   have hcn : wr.cell? ⟨gn, k, none⟩ = some (.int .u64 (y : Int)) := by rw [HN.out.cell?, W4_at _ _ hk4, HY.out]
   have hfa := HA.out.frozen k
   have HSet : Kp _ := ⟨part4_set (dg (m + n)) (dg m) k⟩
   rw [HS.out] at HSet
   rw [HCx.out]
   obtain ⟨wa, rfl⟩ : ∃ x, x = wr := ⟨wr, rfl⟩
   go_wp2_with fail
   replace hca : wa.drew.cell? ⟨w.heap.size, k, none⟩ = some (.int .u64 (x : Int)) := hca
   replace hcn : wa.drew.cell? ⟨gn, k, none⟩ = some (.int .u64 (y : Int)) := hcn
   replace hfa : wa.drew.frozen? ⟨w.heap.size, k, none⟩ = false := hfa
   refine wp_region_any (by kernel_rfl) ?_
   change wpAny _ _ _ _ _ _ _ wa.drew
   replace HA : Kp _ := ⟨HA.out.drew⟩
   replace HN : Kp _ := ⟨HN.out.drew⟩
   replace HR : Kp _ := ⟨HR.out.drew⟩
   replace hB := hB.drew
   generalize wa.drew = wS at *
   refine wT 0 11 ?_ rfl ?_
   try simp only [Act.put, sA, sB, sC]
   refine wT 1 12 ?_ rfl ?_
   try simp only [Act.put, sA, sB, sC]
   refine wT 2 13 ?_ rfl ?_
   try simp only [Act.put, sA, sB, sC]
   refine wT 4 15 ?_ rfl ?_
   try simp only [Act.put, sA, sB, sC]
   refine wT 5 16 ?_ rfl ?_
   try simp only [Act.put, sA, sB, sC]
   refine wT 7 18 ?_ rfl ?_
   try simp only [Act.put, sA, sB, sC]
   refine rK [3, 6] ?_
   refine aS 14 17 rfl rfl (fun K hK => ?_) fun K hK => ?_
   ·go_simp
    refine hK _ _ ?_
    clear hK K
    try simp only [Act.put, sA, sB, sC]
    refine rK [6] ?_
    refine aR 17 rfl fun K hK => ?_
    go_simp
    refine hK _ _ ?_
    clear hK K
    try simp only [Act.put, sA, sB, sC]
    refine wpAny_take (i := 8) (oi := ⟨some 19, _, _, _, _, _⟩) (v := _) rfl (by kernel_rfl) (by kernel_rfl) (by kernel_rfl) (fun _ _ _ h => h) (Or.inl ⟨by rfl, by intro w; go_simp; try rfl⟩) ?_
    try simp only [Act.put, sA, sB, sC]
    refine wT 9 10 ?_ rfl ?_
    try simp only [Act.put, sA, sB, sC]
    refine wT 10 20 ?_ rfl ?_
    try simp only [Act.put, sA, sB, sC]
    refine wT 11 21 ?_ rfl ?_
    try simp only [Act.put, sA, sB, sC]
    refine wT 12 22 ?_ rfl ?_
    try simp only [Act.put, sA, sB, sC]
    refine rK [13] ?_
    refine AllReady.cons (o := ⟨none, _, _, _, _, _⟩) rfl (fun K hK => ?_) AllReady.nil
    go_simp
    refine hK _ _ ?_
    clear hK K
    try simp only [Act.put, sA, sB, sC]
    refine wT 14 5 ?_ rfl ?_
    try simp only [Act.put, sA, sB, sC]
    refine wpAny_done (by kernel_rfl) ?_ _
    go_wp2
    go_roundg g2
    case rel => exact ⟨k + 1, by omega, by go_num, by rw [HD.out], ⟨by have h3 := HA.out.set k (.int .u64 (s : Int)); rw [HSet.out] at h3; exact h3⟩, ⟨HN.out.other (by show _ ≠ w.heap.size; omega) _⟩, ⟨HR.out.other (by show _ ≠ w.heap.size; omega) _⟩, hB.setCell (by show w.heap.size ≤ w.heap.size; omega) _⟩
    case measure => omega
   ·go_simp
    refine hK _ _ ?_
    clear hK K
    try simp only [Act.put, sA, sB, sC]
    refine rK [3] ?_
    refine aR 14 rfl fun K hK => ?_
    go_simp
    refine hK _ _ ?_
    clear hK K
    try simp only [Act.put, sA, sB, sC]
    refine wpAny_take (i := 8) (oi := ⟨some 19, _, _, _, _, _⟩) (v := _) rfl (by kernel_rfl) (by kernel_rfl) (by kernel_rfl) (fun _ _ _ h => h) (Or.inl ⟨by rfl, by intro w; go_simp; try rfl⟩) ?_
    try simp only [Act.put, sA, sB, sC]
    refine wT 9 10 ?_ rfl ?_
    try simp only [Act.put, sA, sB, sC]
    refine wT 10 20 ?_ rfl ?_
    try simp only [Act.put, sA, sB, sC]
    refine wT 11 21 ?_ rfl ?_
    try simp only [Act.put, sA, sB, sC]
    refine wT 12 22 ?_ rfl ?_
    try simp only [Act.put, sA, sB, sC]
    refine rK [13] ?_
    refine AllReady.cons (o := ⟨none, _, _, _, _, _⟩) rfl (fun K hK => ?_) AllReady.nil
    go_simp
    refine hK _ _ ?_
    clear hK K
    try simp only [Act.put, sA, sB, sC]
    refine wT 14 5 ?_ rfl ?_
    try simp only [Act.put, sA, sB, sC]
    refine wpAny_done (by kernel_rfl) ?_ _
    go_wp2
    go_roundg g2
    case rel => exact ⟨k + 1, by omega, by go_num, by rw [HD.out], ⟨by have h3 := HA.out.set k (.int .u64 (s : Int)); rw [HSet.out] at h3; exact h3⟩, ⟨HN.out.other (by show _ ≠ w.heap.size; omega) _⟩, ⟨HR.out.other (by show _ ≠ w.heap.size; omega) _⟩, hB.setCell (by show w.heap.size ≤ w.heap.size; omega) _⟩
    case measure => omega
end Go.Proofs.YtcehkafddlfleaaGreatDoor

namespace Go.Proofs.YtcehkafddlfleaaGreatDoor
open Go.RowKit
theorem tail_cells (n k : Nat) (hk : k < 4) : (cells8 (tailL n k)).take (24 - 8 * k) ++ (cells8 (putN (dg n k) 8) ++ (cells8 (tailL n k)).drop (24 - 8 * k + 8)) = cells8 (tailL n (k + 1)) := by
 rw [← tail_next n k hk, cells8_append, cells8_append]
 unfold cells8
 rw [List.map_take, List.map_drop]
set_option maxRecDepth 100000 in
set_option maxHeartbeats 4000000 in
theorem sdigest_any (n : Nat) (w : World) : Calls Tryz.prog 201 #[.agg (numCells (W4 n)).toArray] w fun e w' => e = .returned (.agg (cells8 (putN n 32)).toArray) ∧ Below w.heap.size w w' := by
 have HLm : Kp ((numCells (W4 n)).length = 4) := ⟨by rw [numCells_length, W4_length]⟩
 go_enter Tryz.func201, Tryz.ntmps201
 go_wp2_with (with_reducible refine wpList_box (o := ⟨some 1, _, _, _, _, _⟩) rfl (.tmp 0) rfl rfl ?_)
 intro w1 hk1 hb1 hs1
 have HC1 : Kp _ := ⟨hk1⟩
 clear hk1 hs1
 go_wp2_with (with_reducible refine wpList_alloc (o := ⟨some 2, _, _, _, _, _⟩) tyDig rfl rfl ?_)
 intro w2 hk2 hb2 hs2
 have HR2 : Kp _ := ⟨hk2⟩
 have HC2 : Kp _ := ⟨HC1.out.below hb2 HC1.out.lt⟩
 have hB2 : Below w.heap.size w w2 := hb1.trans (hb2.mono hb1.size)
 have n1 : w.heap.size < w1.heap.size := HC1.out.lt
 clear hk2 hb1 hb2 hs2 HC1
 go_wp2_with (with_reducible refine wpList_alloc (o := ⟨some 3, _, _, _, _, _⟩) tyDig rfl rfl ?_)
 intro w3 hk3 hb3 hs3
 have HD3 : Kp (Blk w3 w2.heap.size 173 (cells8 (tailL n 0))) := ⟨by rw [tail_none]; exact hk3⟩
 have HR3 : Kp _ := ⟨HR2.out.below hb3 HR2.out.lt⟩
 have HC3 : Kp _ := ⟨HC2.out.below hb3 HC2.out.lt⟩
 have hB3 : Below w.heap.size w w3 := hB2.trans (hb3.mono hB2.size)
 have n2 : w1.heap.size < w2.heap.size := HR2.out.lt
 obtain ⟨gr, hgr⟩ : ∃ g, g = w1.heap.size := ⟨_, rfl⟩
 obtain ⟨gd, hgd⟩ : ∃ g, g = w2.heap.size := ⟨_, rfl⟩
 rw [← hgr] at HR3 n1 n2
 rw [← hgd] at HD3 n2
 rw [← hgr, ← hgd]
 clear hk3 hb3 hs3 HR2 HC2 hB2 hgr hgd
 go_wp2_with (with_reducible refine wpList_loadAll (o := ⟨some 6, _, _, _, _, _⟩) rwWords rfl (.tmp 1) rfl rfl HC3.out HLm.out ?_)
 go_wp2
 go_loopg [7] 4 (fun gk vi wr => ∃ k : Nat, k + gk = 4 ∧ vi = .int .i64 k ∧ Kp (Blk wr gd 173 (cells8 (tailL n k))) ∧ Kp (Blk wr gr 173 zero32) ∧ Kp (Blk wr w.heap.size 296 (numCells (W4 n))) ∧ Below w.heap.size w wr)
 case atStart => exact ⟨0, by omega, rfl, HD3, HR3, HC3, hB3⟩
 case round =>
  clear HD3 HR3 HC3 hB3
  obtain ⟨k, hk, rfl, HD, HR, HC, hB⟩ := hrel
  cases gk with
  | zero =>
   obtain rfl : k = 4 := by omega
   have HQ : Kp (Blk wr gd 173 (cells8 (putN n 32))) := ⟨by rw [← tail_all n]; exact HD.out⟩
   have HLen : Kp ((cells8 (putN n 32)).length = 32) := ⟨by rw [cells8_length, putN_length]⟩
   have HZ : Kp (zero32.length = 32) := ⟨rfl⟩
   generalize hL : putN n 32 = L at *
   have HL : Kp _ := ⟨hL⟩
   clear HD hL
   go_wp2_with (first
    | (with_reducible refine wpList_loadAll (o := ⟨some 18, _, _, _, _, _⟩) rwDig rfl (.tmp 3) rfl rfl HQ.out HLen.out ?_)
    | (with_reducible refine wpList_storeAll (o := ⟨none, _, _, _, _, _⟩) (vs := cells8 L) rwDig rfl (.tmp 2) (.tmp 18) rfl rfl HR.out HZ.out HLen.out (cells8_one _) rfl ?_))
   intro w5 hk5 ho5
   have HK5 : Kp _ := ⟨hk5⟩
   clear hk5
   go_wp2
   exact ret_arr rfl rwDig rfl HK5.out HLen.out rfl ⟨by rw [HL.out], hB.trans (ho5.below (by omega))⟩
  | succ g2 =>
   have hkI : (k : Int) < 4 := by omega
   have hk4 : k < 4 := by omega
   obtain ⟨s, hs⟩ : ∃ s : Nat, s = 24 - 8 * k := ⟨_, rfl⟩
   have hs24 : s ≤ 24 := by omega
   have hSt := fun W => sstart_any k W hk4
   have hTN := tail_cells n k hk4
   have hx64 := dg_lt n k
   have he := W4_at n k hk4
   rw [← hs] at hTN
   simp only [← hs] at hSt
   have HSC : Kp _ := ⟨hSt⟩
   have HTN : Kp _ := ⟨hTN⟩
   have hsl := fun W => dig_slice_l gd s hs24 W
   generalize dg n k = x at *
   clear hSt hTN hs
   go_wp2_with (with_reducible refine wpList_index (o := ⟨some 10, _, _, _, _, _⟩) rwWords.ty plain64 rfl (.tmp 6) (.tmp 7) rfl rfl rfl k rfl hk4 he ?_)
   go_wp2_with fail
   obtain ⟨wa, rfl⟩ : ∃ x, x = wr := ⟨wr, rfl⟩
   refine wp_region_any (by kernel_rfl) ?_
   change wpAny _ _ _ _ _ _ _ wa.drew
   replace HC : Kp _ := ⟨HC.out.drew⟩
   replace HR : Kp _ := ⟨HR.out.drew⟩
   replace HD : Kp _ := ⟨HD.out.drew⟩
   replace hB := hB.drew
   generalize wa.drew = wS at *
   refine wT 0 11 ?_ rfl ?_
   try simp only [Act.put, sA, sB, sC]
   refine wT 3 14 ?_ rfl ?_
   try simp only [Act.put, sA, sB, sC]
   refine rK [1] ?_
   refine aR 12 rfl fun K hK => ?_
   go_simp
   refine (HSC.out wS).mono ?_
   rintro e w61 ⟨rfl, rfl⟩
   refine hK _ _ ?_
   clear hK K
   try simp only [Act.put, sA, sB, sC]
   refine wpAny_take (i := 2) (oi := ⟨some 13, _, _, _, _, _⟩) (v := _) rfl (by kernel_rfl) (by kernel_rfl) (by kernel_rfl) (fun _ _ _ h => h) (Or.inl ⟨by rfl, by intro w; go_simp; try rfl⟩) ?_
   try simp only [Act.put, sA, sB, sC]
   refine rK [4] ?_
   refine aR 15 rfl fun K hK => ?_
   go_simp
   refine (put_any x 8 _ hx64).mono ?_
   rintro e w62 ⟨v, rfl, hown, hb'⟩
   obtain ⟨Ap, cp, rfl, hbs⟩ := Bs.of_own hown
   have HP : Kp _ := ⟨hbs⟩
   refine hK _ _ ?_
   clear hK K hown hbs
   try simp only [Act.put, sA, sB, sC]
   replace HC : Kp _ := ⟨HC.out.below hb' HC.out.lt⟩
   replace HR : Kp _ := ⟨HR.out.below hb' HR.out.lt⟩
   replace HD : Kp _ := ⟨HD.out.below hb' HD.out.lt⟩
   replace hB := hB.trans (hb'.mono hB.size)
   clear hb'
   refine rK [5] ?_
   refine aR 16 rfl fun K hK => ?_
   obtain ⟨ad, hAd⟩ : ∃ ad, Ap = some ad := by
    obtain ⟨b, o, h, _⟩ := HP.out.cells (by decide)
    exact ⟨_, h⟩
   subst hAd
   have hnw := HP.out.news _ rfl
   refine step_copy_splice rfl (.tmp 13) (.tmp 15) _ _ rfl 5 Tryz.underlying29 (by kernel_rfl) _ _ _ _ _ _ rfl rfl gd s (cells8 (tailL n k)) 173 HD.out.heap (cells8 (putN x 8)) (by rw [cells8_length, putN_length]; show 8 = min 8 (32 - s); omega) (fun _ => ⟨rfl, _, rfl, hnw⟩) (by rw [cells8_length, cells8_length, putN_length, tailL_length _ _ (by omega)]; omega) (cells8_one _) gd w62 (Below.refl _ _) (Nat.le_refl _) ?_
   intro w63 hh hb'
   have HDn : Kp (Blk w63 gd 173 (cells8 (tailL n (k + 1)))) := ⟨⟨by have h3 := hh.out; unfold splice at h3; rw [cells8_length, putN_length, HTN.out] at h3; exact h3⟩⟩
   replace HC : Kp _ := ⟨HC.out.below hb' (by omega)⟩
   replace HR : Kp _ := ⟨HR.out.below hb' (by omega)⟩
   replace hB := hB.trans (hb'.mono (by omega))
   refine hK _ _ ?_
   clear hK K hh hb'
   try simp only [Act.put, sA, sB, sC]
   refine wpAny_done (by kernel_rfl) ?_ _
   go_wp2
   go_roundg g2
   case rel => exact ⟨k + 1, by omega, by go_num, HDn, HR, HC, hB⟩
   case measure => omega
end Go.Proofs.YtcehkafddlfleaaGreatDoor

namespace Go.Proofs.YtcehkafddlfleaaGreatDoor
open Go.RowKit
def atU (z : Int) : Nat := (z % 18446744073709551616).toNat
theorem atU_lt (z : Int) : atU z < 18446744073709551616 := by unfold atU; omega
theorem atU_wrap (z : Int) : IntKind.u64.wrap z = ((atU z : Nat) : Int) := by rw [IntKind.wrap_u64]; unfold atU; omega
def ofL (key : List UInt8) (z : Int) (b : List UInt8) : List UInt8 := hmacL key (putN (atU z) 8 ++ b)
theorem ofL_length (key : List UInt8) (z : Int) (b : List UInt8) : (ofL key z b).length = 32 := by unfold ofL hmacL; rw [shaL_len]
theorem put8 (k : Nat) (w : World) (hk : k < 18446744073709551616) :
  Calls Tryz.prog 123 #[.int .u64 k, .int .i64 8] w fun e w' => ∃ A c, e = .returned (.slice A 8 c) ∧ Bs w' w'.heap.size A 8 c (putN k 8) ∧ Below w.heap.size w w' := by
 have h := put_any k 8 w hk
 have e4 : (min (max (8 : Int) 0) 8).toNat = 8 := by decide
 rw [e4] at h
 refine h.mono ?_
 rintro e w' ⟨v, rfl, hown, hb⟩
 obtain ⟨A, c, rfl, hbs⟩ := Bs.of_own hown
 exact ⟨A, c, rfl, hbs, hb⟩
set_option maxHeartbeats 1000000 in
theorem of_any (K : Option Addr) (n c : Nat) (key : List UInt8) (z : Int) (B : Option Addr) (m d : Nat) (b : List UInt8) (w : World) (hk : Bs w w.heap.size K n c key) (hb : Bs w w.heap.size B m d b) (hn : n ≤ 524288) (hm : m ≤ 523000) :
  Calls Tryz.prog 143 #[.slice K n c, .int .i64 z, .slice B m d] w fun e w' => e = .returned (.agg (cells8 (ofL key z b)).toArray) ∧ Below w.heap.size w w' := by
 obtain ⟨L, hL⟩ : ∃ L, L = ofL key z b := ⟨_, rfl⟩
 have HL : Kp (L = ofL key z b) := ⟨hL⟩
 have HLl : Kp ((cells8 L).length = 32) := ⟨by rw [hL, cells8_length, ofL_length]⟩
 have HK : Kp _ := ⟨hk⟩
 have HB : Kp _ := ⟨hb⟩
 have hz := atU_wrap z
 have hzl := atU_lt z
 have HMl : Kp (b.length = m) := ⟨hb.len⟩
 have HT : Kp (∀ W Z e f, Bs W W.heap.size K n c key → Ls W W.heap.size Z e f [putN (atU z) 8, b] → Calls Tryz.prog 122 #[.slice K n c, .slice Z e f] W fun e w' => e = .returned (.agg (cells8 L).toArray) ∧ Below W.heap.size W w') := ⟨fun W Z e f h1 h2 => by
  have h := tag_any K n c key Z e f [putN (atU z) 8, b] W h1 h2 hn (by have := hb.len; simp [putN_length]; omega)
  rw [show hmacL key [putN (atU z) 8, b].flatten = L by rw [hL]; unfold ofL; simp] at h
  exact h⟩
 rw [← hL]
 generalize atU z = u at *
 clear hL hk hb HL
 go_enter Tryz.func143, Tryz.ntmps143
 go_wp2_with (with_reducible refine wpList_alloc (o := ⟨some 6, _, _, _, _, _⟩) tyDig rfl rfl ?_)
 intro w0 hk0 hb0 hs0
 have HR : Kp _ := ⟨hk0⟩
 have HK0 : Kp _ := ⟨HK.out.next hb0 (Nat.le_refl _)⟩
 have HB0 : Kp _ := ⟨HB.out.next hb0 (Nat.le_refl _)⟩
 clear hk0 HK HB hs0
 go_wp2_with fail
 refine (put8 u w0 hzl).mono ?_
 rintro e w1 ⟨P, cp, rfl, hp, hb1⟩
 have HP : Kp _ := ⟨hp⟩
 have HR1 : Kp _ := ⟨HR.out.below hb1 HR.out.lt⟩
 have HK1 : Kp _ := ⟨HK0.out.next hb1 (Nat.le_refl _)⟩
 have HB1 : Kp _ := ⟨HB0.out.next hb1 (Nat.le_refl _)⟩
 have hB1 := hb0.trans (hb1.mono hb0.size)
 clear hp hb0 hb1 HR HK0 HB0
 go_wp2_with fail
 refine (HT.out _ _ _ _ ((HK1.out.alloc (Nat.le_refl _) _).more (by simp)) (ls_two w1 _ HP.out HB1.out)).mono ?_
 rintro e w2 ⟨rfl, hb2⟩
 have hb2' : Below w1.heap.size w1 w2 := ((Below.refl _ w1).alloc (Nat.le_refl _) _).trans (hb2.mono (by simp))
 have HR2 : Kp _ := ⟨HR1.out.below hb2' HR1.out.lt⟩
 have hB2 := hB1.trans (hb2'.mono hB1.size)
 have HZ : Kp (zero32.length = 32) := ⟨rfl⟩
 clear hb2 hb2' HR1 hB1
 go_wp2_with (refine wpList_storeAll (o := ⟨none, _, _, _, _, _⟩) (vs := cells8 L) rwDig rfl (.tmp 6) (.tmp 13) rfl rfl HR2.out HZ.out HLl.out (cells8_one _) rfl ?_)
 intro w3 hk3 ho3
 have HK3 : Kp _ := ⟨hk3⟩
 clear hk3
 go_wp2
 exact ret_arr rfl rwDig rfl HK3.out HLl.out rfl ⟨rfl, hB2.trans (ho3.below (Nat.le_refl _))⟩
end Go.Proofs.YtcehkafddlfleaaGreatDoor
