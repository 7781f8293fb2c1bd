/- The contracts of package sha's small functions on words.
   The contract of package sha's schedule.
   The contract of package sha's compress.
   The contracts of package sha's digest and ending.
   The contract of package sha's ending.
   Byte slices and lists of them that lie apart from one block, which is written meanwhile. No program is named here.
   Lists of lists, laid one behind the other. No program is named here. -/
import Derived.Test.YthpfiieaanioeaaG02
import Derived.Test.YthpfiieaanioeaaG03
import Derived.Test.YthpfiieaanioeaaG01
import Derived.BigQuiet
import Derived.Deep.QuietTactic
import Derived.StillTailTactics
import Derived.Test.YthpfiieaanioeaaG04
namespace Go.Proofs.Ythpfiieaanioeaa
open Go.RowKit

theorem and31 (n : Nat) (h1 : 1 ≤ n) (h2 : n ≤ 31) : bits .and .u64 (IntKind.u64.wrap (-(n : Int))) 31 = ((32 - n : Nat) : Int) := by
  have e1 : IntKind.u64.wrap (-(n : Int)) = ((18446744073709551616 - n : Nat) : Int) := by
    rw [IntKind.wrap_u64]; omega
  rw [e1]
  have := u64_and_nat (18446744073709551616 - n) 31 (by omega) (by omega)
  rw [show ((31 : Nat) : Int) = (31 : Int) from rfl] at this
  rw [this]
  have e2 : (18446744073709551616 - n) &&& 31 = (18446744073709551616 - n) % 32 := Nat.and_two_pow_sub_one_eq_mod _ 5
  rw [e2]
  congr 1
  omega

theorem turnR_val' (x : UInt32) (n : Nat) : bits .or .u32 ((x.toNat : Int) * 2 ^ (32 - n) % 4294967296) ((x.toNat : Int) / 2 ^ n) = ((turnR x n).toNat : Int) := by
  rw [← turnR_val x n]
  have h1 : (x.toNat : Int) / 2 ^ n = ((x.toNat / 2 ^ n : Nat) : Int) := by simp
  have h2 : (x.toNat : Int) * 2 ^ (32 - n) % 4294967296 = ((x.toNat * 2 ^ (32 - n) % 4294967296 : Nat) : Int) := by simp
  rw [h1, h2]
  have l1 : x.toNat / 2 ^ n < 4294967296 := Nat.lt_of_le_of_lt (Nat.div_le_self _ _) x.toNat_lt
  have l2 : x.toNat * 2 ^ (32 - n) % 4294967296 < 4294967296 := Nat.mod_lt _ (by decide)
  rw [u32_or_nat _ _ l2 l1, u32_or_nat _ _ l1 l2, Nat.or_comm]

set_option maxHeartbeats 400000 in
theorem rot_any (x : UInt32) (n : Nat) (w : World) (h1 : 1 ≤ n) (h2 : n ≤ 31) :
    Calls Try.prog 81 #[.int .u32 x.toNat, .int .i64 (-(n : Int))] w fun e w' => e = .returned (.int .u32 (turnR x n).toNat) ∧ w' = w := by
  have hx : (x.toNat : Int) < 4294967296 := by have := x.toNat_lt; omega
  have HT := Lib.hid (turnR_val x n)
  have ha := and31 n h1 h2
  obtain ⟨m, hm⟩ : ∃ m : Nat, m = 32 - n := ⟨_, rfl⟩
  rw [← hm] at ha
  have hm1 : 1 ≤ m := by omega
  have hm2 : m ≤ 31 := by omega
  have HM := Lib.hid hm
  clear hm
  go_enter Try.func81, Try.ntmps81
  go_wp2
  go_ret
  refine ⟨?_, rfl⟩
  show Ending.returned (.int .u32 _) = _
  rw [HM.out, show 32 - (32 - n) = n by omega, turnR_val' x n]

set_option maxHeartbeats 400000 in
theorem turnp_any (x : UInt32) (n : Nat) (w : World) (h1 : 1 ≤ n) (h2 : n ≤ 31) :
    Calls Try.prog 80 #[.int .u32 x.toNat, .int .i64 (n : Int)] w fun e w' => e = .returned (.int .u32 (turnR x n).toNat) ∧ w' = w := by
  go_enter Try.func80, Try.ntmps80
  go_wp2_with fail
  refine (rot_any x n _ h1 h2).mono ?_
  rintro e w' ⟨rfl, rfl⟩
  go_wp2
  go_ret
  exact ⟨rfl, rfl⟩

theorem xor3u (p q r : UInt32) (z : Int) (hz : z = (r.toNat : Int)) : bits .xor .u32 (bits .xor .u32 (p.toNat : Int) (q.toNat : Int)) z = ((p ^^^ q ^^^ r).toNat : Int) := by
  rw [hz, u32_xor', u32_xor']
theorem ch_bits (x y z : UInt32) : (x &&& y) ^^^ ((4294967295 ^^^ x) &&& z) = chR x y z := by
  unfold chR
  apply UInt32.eq_of_toBitVec_eq
  apply BitVec.eq_of_getLsbD_eq
  intro i hi
  simp only [UInt32.toBitVec_xor, UInt32.toBitVec_and, UInt32.toBitVec_or, BitVec.getLsbD_xor, BitVec.getLsbD_and, BitVec.getLsbD_or]
  generalize x.toBitVec.getLsbD i = a
  generalize y.toBitVec.getLsbD i = b
  generalize z.toBitVec.getLsbD i = c
  have : (4294967295 : UInt32).toBitVec.getLsbD i = true := by
    show (BitVec.allOnes 32).getLsbD i = true
    rw [BitVec.getLsbD_allOnes]; simpa using hi
  rw [this]
  cases a <;> cases b <;> cases c <;> rfl
theorem mj_bits (x y z : UInt32) : (x &&& y) ^^^ (x &&& z) ^^^ (y &&& z) = mjR x y z := by
  unfold mjR
  apply UInt32.eq_of_toBitVec_eq
  apply BitVec.eq_of_getLsbD_eq
  intro i hi
  simp only [UInt32.toBitVec_xor, UInt32.toBitVec_and, UInt32.toBitVec_or, BitVec.getLsbD_xor, BitVec.getLsbD_and, BitVec.getLsbD_or]
  generalize x.toBitVec.getLsbD i = a
  generalize y.toBitVec.getLsbD i = b
  generalize z.toBitVec.getLsbD i = c
  cases a <;> cases b <;> cases c <;> rfl
theorem ch_val (x y z : UInt32) : bits .xor .u32 (bits .and .u32 (x.toNat : Int) (y.toNat : Int)) (bits .and .u32 (bits .xor .u32 IntKind.u32.max (x.toNat : Int)) (z.toNat : Int)) = ((chR x y z).toNat : Int) := by
  have e0 : IntKind.u32.max = (((4294967295 : UInt32).toNat : Nat) : Int) := rfl
  rw [e0, u32_xor', u32_and', u32_and', u32_xor', ch_bits]
theorem mj_val (x y z : UInt32) : bits .xor .u32 (bits .xor .u32 (bits .and .u32 (x.toNat : Int) (y.toNat : Int)) (bits .and .u32 (x.toNat : Int) (z.toNat : Int))) (bits .and .u32 (y.toNat : Int) (z.toNat : Int)) = ((mjR x y z).toNat : Int) := by
  rw [u32_and', u32_and', u32_and', u32_xor', u32_xor', mj_bits]

section
set_option maxHeartbeats 400000
theorem big1_any (x : UInt32) (w : World) : Calls Try.prog 73 #[.int .u32 x.toNat] w fun e w' => e = .returned (.int .u32 (big1 x).toNat) ∧ w' = w := by
  go_enter Try.func73, Try.ntmps73
  go_wp2_with (go_at_call 80; refine (turnp_any _ _ _ (by decide) (by decide)).mono ?_; rintro e w' ⟨rfl, rfl⟩)
  go_ret
  refine ⟨?_, rfl⟩
  show Ending.returned (.int .u32 _) = _
  rw [xor3u _ _ _ _ rfl]
  rfl
theorem big0_any (x : UInt32) (w : World) : Calls Try.prog 75 #[.int .u32 x.toNat] w fun e w' => e = .returned (.int .u32 (big0 x).toNat) ∧ w' = w := by
  go_enter Try.func75, Try.ntmps75
  go_wp2_with (go_at_call 80; refine (turnp_any _ _ _ (by decide) (by decide)).mono ?_; rintro e w' ⟨rfl, rfl⟩)
  go_ret
  refine ⟨?_, rfl⟩
  show Ending.returned (.int .u32 _) = _
  rw [xor3u _ _ _ _ rfl]
  rfl
theorem sig0_any (x : UInt32) (w : World) : Calls Try.prog 79 #[.int .u32 x.toNat] w fun e w' => e = .returned (.int .u32 (sig0 x).toNat) ∧ w' = w := by
  go_enter Try.func79, Try.ntmps79
  go_wp2_with (go_at_call 80; refine (turnp_any _ _ _ (by decide) (by decide)).mono ?_; rintro e w' ⟨rfl, rfl⟩)
  go_ret
  refine ⟨?_, rfl⟩
  show Ending.returned (.int .u32 _) = _
  rw [xor3u _ _ _ _ (u32_shr3 x)]
  rfl
theorem sig1_any (x : UInt32) (w : World) : Calls Try.prog 78 #[.int .u32 x.toNat] w fun e w' => e = .returned (.int .u32 (sig1 x).toNat) ∧ w' = w := by
  go_enter Try.func78, Try.ntmps78
  go_wp2_with (go_at_call 80; refine (turnp_any _ _ _ (by decide) (by decide)).mono ?_; rintro e w' ⟨rfl, rfl⟩)
  go_ret
  refine ⟨?_, rfl⟩
  show Ending.returned (.int .u32 _) = _
  rw [xor3u _ _ _ _ (u32_shr10 x)]
  rfl
theorem choose_any (x y z : UInt32) (w : World) : Calls Try.prog 74 #[.int .u32 x.toNat, .int .u32 y.toNat, .int .u32 z.toNat] w fun e w' => e = .returned (.int .u32 (chR x y z).toNat) ∧ w' = w := by
  go_enter Try.func74, Try.ntmps74
  go_wp2
  go_ret
  refine ⟨?_, rfl⟩
  show Ending.returned (.int .u32 _) = _
  rw [ch_val]
theorem most_any (x y z : UInt32) (w : World) : Calls Try.prog 76 #[.int .u32 x.toNat, .int .u32 y.toNat, .int .u32 z.toNat] w fun e w' => e = .returned (.int .u32 (mjR x y z).toNat) ∧ w' = w := by
  go_enter Try.func76, Try.ntmps76
  go_wp2
  go_ret
  refine ⟨?_, rfl⟩
  show Ending.returned (.int .u32 _) = _
  rw [mj_val]
end
end Go.Proofs.Ythpfiieaanioeaa

namespace Go.Proofs.Ythpfiieaanioeaa
open Go.RowKit

/-- numbers as words' cells -/
def cellsU (l : List Nat) : List Value := l.map fun (x : Nat) => Value.int .u32 (x : Int)
theorem cellsU_length (l : List Nat) : (cellsU l).length = l.length := by simp [cellsU]
theorem cellsU_one (l : List Nat) : ∀ u ∈ cellsU l, u.oneCell' = true := by
  intro u hu
  obtain ⟨_, _, rfl⟩ := List.mem_map.1 hu
  rfl
theorem cellsU_some {l : List Nat} {q x : Nat} (h : l[q]? = some x) : (cellsU l)[q]? = some (.int .u32 (x : Int)) := by
  simp [cellsU, h]
/-- the words, behind i bytes -/
def partW (b : List UInt8) (i : Nat) : List Nat := (List.range 64).map fun q => getN ((b.take (min i (4 * q + 4))).drop (4 * q))
theorem partW_length (b : List UInt8) (i : Nat) : (partW b i).length = 64 := by simp [partW]
theorem partW_at (b : List UInt8) (i q : Nat) (hq : q < 64) : (partW b i)[q]? = some (getN ((b.take (min i (4 * q + 4))).drop (4 * q))) := by
  simp [partW, hq]
theorem partW_next (b : List UInt8) (i : Nat) (hi : i < 64) (hb : b.length = 64) :
    partW b (i + 1) = (partW b i).set (i / 4) (getN ((b.take i).drop (4 * (i / 4))) * 256 + (b[i]'(by omega)).toNat) := by
  apply List.ext_getElem (by simp [partW])
  intro q h1 h2
  have hq : q < 64 := by simpa [partW] using h1
  rw [List.getElem_set]
  simp only [partW, List.getElem_map, List.getElem_range]
  by_cases e : i / 4 = q
  · subst e
    rw [if_pos rfl, show min (i + 1) (4 * (i / 4) + 4) = i + 1 by omega, List.take_succ_eq_append_getElem (by omega), List.drop_append_of_le_length (by simp; omega), getN_snoc]
  · rw [if_neg e]
    by_cases h3 : i < 4 * q
    · rw [List.drop_of_length_le (by simp; omega), List.drop_of_length_le (by simp; omega)]
    · rw [show min (i + 1) (4 * q + 4) = min i (4 * q + 4) by omega]
theorem part_small (b : List UInt8) (i : Nat) (hi : i < 64) (hb : b.length = 64) : getN ((b.take i).drop (4 * (i / 4))) < 16777216 := by
  have h1 := getN_lt ((b.take i).drop (4 * (i / 4)))
  have h2 : ((b.take i).drop (4 * (i / 4))).length ≤ 3 := by simp; omega
  have h3 : (256 : Nat) ^ ((b.take i).drop (4 * (i / 4))).length ≤ 256 ^ 3 := Nat.pow_le_pow_right (by decide) h2
  have e : (256 : Nat) ^ 3 = 16777216 := by decide
  omega
theorem or_step (G y : Nat) (hG : G < 16777216) (hy : y < 256) : bits .or .u32 ((G : Int) * 256) ((y : Int) % 4294967296) = ((G * 256 + y : Nat) : Int) := by
  have e1 : ((y : Int) % 4294967296) = (y : Int) := by omega
  have e2 : ((G : Int) * 256) = ((G * 256 : Nat) : Int) := by omega
  rw [e1, e2, u32_or_nat (G * 256) y (by omega) (by omega)]
  rw [nat_join 8 (G * 256) y (by omega) (by omega)]
theorem part_end (b : List UInt8) (hb : b.length = 64) : cellsU (partW b 64) = cells32 (first b 16 ++ List.replicate 48 0) := by
  apply List.ext_getElem (by simp [cellsU, partW, cells32, first])
  intro q h1 h2
  have hq : q < 64 := by simpa [cellsU, partW] using h1
  simp only [cellsU, partW, cells32, List.getElem_map, List.getElem_range]
  congr 2
  by_cases h : q < 16
  · rw [List.getElem_append_left (by rw [first_length]; exact h)]
    simp only [first, List.getElem_map, List.getElem_range, word]
    have h3 : getN ((b.take (4 * q + 4)).drop (4 * q)) < 4294967296 := by
      have h4 := getN_lt ((b.take (4 * q + 4)).drop (4 * q))
      rw [show ((b.take (4 * q + 4)).drop (4 * q)).length = 4 by simp; omega] at h4
      exact h4
    rw [show min 64 (4 * q + 4) = 4 * q + 4 by omega]
    show _ = _ % 4294967296
    rw [Nat.mod_eq_of_lt h3]
  · rw [List.getElem_append_right (by rw [first_length]; omega), List.getElem_replicate, show min 64 (4 * q + 4) = 64 by omega, List.drop_of_length_le (by simp; omega)]
    rfl
/-- the words so far, noughts behind them -/
def extZ (l : List UInt32) (i : Nat) : List UInt32 := extW (i - 16) l ++ List.replicate (64 - i) 0
theorem extZ_next (l : List UInt32) (i : Nat) (v : UInt32) (hl : l.length = 16) (h1 : 16 ≤ i) (h2 : i < 64) (hv : v = nextW (extW (i - 16) l)) : (cells32 (extZ l i)).set i (.int .u32 (v.toNat : Int)) = cells32 (extZ l (i + 1)) := by
  subst hv
  unfold extZ
  have e : (extW (i - 16) l).length = i := by rw [extW_length]; omega
  rw [show i + 1 - 16 = (i - 16) + 1 by omega, show 64 - i = (64 - (i + 1)) + 1 by omega, List.replicate_succ, cells32_append, List.set_append_right _ _ (by rw [cells32_length]; omega), cells32_length, e, Nat.sub_self]
  simp [extW, cells32]
theorem extZ_at (l : List UInt32) (i j : Nat) (hl : l.length = 16) (h1 : 16 ≤ i) (hj : j < i) : (cells32 (extZ l i))[j]? = some (.int .u32 (((extW (i - 16) l).getD j 0).toNat : Int)) := by
  have e : (extW (i - 16) l).length = i := by rw [extW_length]; omega
  unfold extZ
  rw [cells32_append, List.getElem?_append_left (by rw [cells32_length]; omega), cells32_at _ j (by omega)]
  simp [List.getD, List.getElem?_eq_getElem (show j < (extW (i - 16) l).length by omega)]
theorem extZ_length (l : List UInt32) (i : Nat) (hl : l.length = 16) (h1 : 16 ≤ i) (h2 : i ≤ 64) : (cells32 (extZ l i)).length = 64 := by
  rw [cells32_length]; unfold extZ; rw [List.length_append, extW_length, List.length_replicate]; omega

theorem sum4 (a b c d : UInt32) : ((d.toNat : Int) + (c.toNat : Int) + (b.toNat : Int) + (a.toNat : Int)) % 4294967296 = ((a + b + c + d).toNat : Int) := by
  simp only [UInt32.toNat_add]; omega

def zeroW : List Value := cells32 (List.replicate 64 0)
theorem zeroW_part (b : List UInt8) : zeroW = cellsU (partW b 0) := by
  unfold zeroW partW cellsU
  simp only [Nat.zero_min, List.take_zero, List.drop_nil]
  rfl
theorem ty64 : Ty Try.prog 114 zeroW := ⟨by kernel_rfl⟩
theorem rw64 : Rw Try.prog 114 (.array 64 97) 64 := ⟨by kernel_rfl, rfl, by kernel_rfl⟩
theorem rwBlock : Rw Try.prog 101 (.array 64 5) 64 := ⟨by kernel_rfl, rfl, by kernel_rfl⟩

set_option maxRecDepth 100000 in
set_option maxHeartbeats 4000000 in
theorem schedule_any (b : List UInt8) (w : World) (hb : b.length = 64) :
    Calls Try.prog 71 #[.agg (cells8 b).toArray] w fun e w' => e = .returned (.agg (cells32 (wordsL b)).toArray) ∧ Below w.heap.size w w' := by
  have HL := Lib.hid hb
  clear hb
  go_enter Try.func71, Try.ntmps71
  go_wp2_with (with_reducible refine wpList_box (o := ⟨some 1, _, _, _, _, _⟩) rfl (.tmp 0) rfl rfl ?_)
  intro w1 hk1 hb1 hs1
  have HK1 := Lib.hid hk1
  go_wp2_with (with_reducible refine wpList_alloc (o := ⟨some 2, _, _, _, _, _⟩) ty64 rfl rfl ?_)
  intro w2 hk2 hb2 hs2
  have HK2 := Lib.hid hk2
  go_wp2_with (with_reducible refine wpList_alloc (o := ⟨some 3, _, _, _, _, _⟩) ty64 rfl rfl ?_)
  intro w3 hk3 hb3 hs3
  have HK3 := Lib.hid hk3
  have HB1 := Lib.hid ((HK1.out.below hb2 (by omega)).below hb3 (by omega))
  have HB2 := Lib.hid (HK2.out.below hb3 (by omega))
  have HB3 : Hid (Blk w3 (w.heap.size + 1 + 1) 114 (cellsU (partW b 0))) := by
    show Blk _ _ _ _
    rw [← zeroW_part]; exact hk3
  have hB3 : Below w.heap.size w w3 := (hb1.trans (hb2.mono (by omega))).trans (hb3.mono (by omega))
  clear HK1 HK2 HK3 hk1 hk2 hk3 hb1 hb2 hb3 hs1 hs2 hs3
  go_wp2
  go_loopw [6] (fun v wr => ∃ i : Nat, i ≤ 64 ∧ v = .int .i64 i ∧ Hid (Blk wr (w.heap.size + 1 + 1) 114 (cellsU (partW b i))) ∧ Only (w.heap.size + 1 + 1) w3 wr) (fun v _ => 64 - (intOf v).toNat)
  case atStart => exact ⟨0, Nat.zero_le _, rfl, HB3, Only.refl _ _⟩
  case round =>
    clear HB3
    obtain ⟨i, hi, rfl, HB, ho⟩ := hrel
    by_cases hlt : i < 64
    · have hbi : i < b.length := by rw [HL.out]; exact hlt
      have hcb := (HB1.out.only ho (by omega)).cell (i := i) (by rw [cells8_length]; exact hbi)
      have hcb2 : wr.cell? ⟨w.heap.size, i, none⟩ = some (.int .u8 (b[i].toNat : Int)) := by
        rw [hcb]; simp [cells8]
      have hq64 : i / 4 < 64 := by omega
      have hmin : min i (4 * (i / 4) + 4) = i := by omega
      have hcw : wr.cell? ⟨w.heap.size + 1 + 1, i / 4, none⟩ = some (.int .u32 ((getN ((b.take i).drop (4 * (i / 4))) : Nat) : Int)) := by
        rw [HB.out.cell? (i / 4)]
        have := partW_at b i (i / 4) hq64
        rw [hmin] at this
        exact cellsU_some this
      have HN := Lib.hid (partW_next b i hlt HL.out)
      have hG := part_small b i hlt HL.out
      generalize getN ((b.take i).drop (4 * (i / 4))) = G at *
      generalize b[i] = y at *
      have hfw := HB.out.frozen (i / 4)
      obtain ⟨q, hqe⟩ : ∃ q, q = i / 4 := ⟨_, rfl⟩
      rw [← hqe] at hcw hfw HN hq64
      have hqi : ((i : Int) / 4) = (q : Int) := by omega
      have hqq : (q : Int) < 64 := by omega
      have hqw : IntKind.i64.wrap (q : Int) = (q : Int) := by rw [IntKind.wrap_i64]; omega
      clear hqe hmin hcb
      go_wp2_with fail
      go_still_tail 12, (by kernel_rfl)
      change wpList _ _ _ _ _ wr.drew
      go_wp2
      have HV := Lib.hid (or_step G y.toNat hG y.toNat_lt)
      refine ⟨⟨i + 1, by omega, by go_num, ?_, (ho.trans (Only.setCell wr ⟨w.heap.size + 1 + 1, q, none⟩ _)).drew⟩, by simp [intOf]; omega⟩
      show Blk _ _ _ _
      rw [HV.out, HN.out]
      have h3 := (HB.out.set q (.int .u32 ((G * 256 + y.toNat : Nat) : Int))).drew
      have e : (cellsU (partW b i)).set q (.int .u32 ((G * 256 + y.toNat : Nat) : Int)) = cellsU ((partW b i).set q (G * 256 + y.toNat)) := by
        simp only [cellsU, List.map_set]
      rw [e] at h3
      exact h3
    · have HI := Lib.hid (show i = 64 by omega)
      have HBw : Hid (Blk wr (w.heap.size + 1 + 1) 114 (cells32 (extZ (first b 16) 16))) := by
        have h1 := HB.out
        rw [HI.out, part_end b HL.out] at h1
        exact h1
      have HWL : Kp (cells32 (extZ (first b 16) 64) = cells32 (wordsL b)) := ⟨by unfold extZ wordsL; simp⟩
      have HF := Lib.hid (first_length b 16)
      generalize first b 16 = l0 at *
      have hlt3 : w.heap.size + 1 < w3.heap.size := HB2.out.lt
      obtain ⟨wx, rfl⟩ : ∃ x, x = wr := ⟨wr, rfl⟩
      clear HB
      go_wp2
      go_loopw [5] (fun v wr => ∃ i : Nat, 16 ≤ i ∧ i ≤ 64 ∧ v = .int .i64 i ∧ Hid (Blk wr (w.heap.size + 1 + 1) 114 (cells32 (extZ l0 i))) ∧ Only (w.heap.size + 1 + 1) w3 wr) (fun v _ => 64 - (intOf v).toNat)
      case atStart => exact ⟨16, Nat.le_refl _, by omega, rfl, HBw, ho⟩
      case round =>
        clear HBw ho hlt hi
        obtain ⟨k, hk1, hk2, rfl, HB, ho⟩ := hrel
        by_cases hlt : k < 64
        · have hat : ∀ j, j < k → wr.cell? ⟨w.heap.size + 1 + 1, j, none⟩ = some (.int .u32 (((extW (k - 16) l0).getD j 0).toNat : Int)) := fun j hj => by
            rw [HB.out.cell? j]; exact extZ_at l0 k j HF.out hk1 hj
          have hlen : (extW (k - 16) l0).length = k := by rw [extW_length, HF.out]; omega
          have hnw : nextW (extW (k - 16) l0) = (extW (k - 16) l0).getD (k - 16) 0 + sig0 ((extW (k - 16) l0).getD (k - 15) 0) + (extW (k - 16) l0).getD (k - 7) 0 + sig1 ((extW (k - 16) l0).getD (k - 2) 0) := by unfold nextW; rw [hlen]
          obtain ⟨k16, e16⟩ : ∃ q : Nat, q = k - 16 := ⟨_, rfl⟩
          obtain ⟨k15, e15⟩ : ∃ q : Nat, q = k - 15 := ⟨_, rfl⟩
          obtain ⟨k7, e7⟩ : ∃ q : Nat, q = k - 7 := ⟨_, rfl⟩
          obtain ⟨k2, e2⟩ : ∃ q : Nat, q = k - 2 := ⟨_, rfl⟩
          have w16 : IntKind.i64.wrap ((k : Int) - 16) = (k16 : Int) := by rw [IntKind.wrap_i64]; omega
          have w15 : IntKind.i64.wrap ((k : Int) - 15) = (k15 : Int) := by rw [IntKind.wrap_i64]; omega
          have w7 : IntKind.i64.wrap ((k : Int) - 7) = (k7 : Int) := by rw [IntKind.wrap_i64]; omega
          have w2' : IntKind.i64.wrap ((k : Int) - 2) = (k2 : Int) := by rw [IntKind.wrap_i64]; omega
          have b16 : (k16 : Int) < 64 := by omega
          have b15 : (k15 : Int) < 64 := by omega
          have b7 : (k7 : Int) < 64 := by omega
          have b2 : (k2 : Int) < 64 := by omega
          have c16 := hat k16 (by omega)
          have c15 := hat k15 (by omega)
          have c7 := hat k7 (by omega)
          have c2 := hat k2 (by omega)
          have HS := fun v hv => extZ_next l0 k v HF.out hk1 hlt hv
          have hlz := extZ_length l0 k HF.out hk1 hk2
          have hcw := HB.out.cell (i := k) (by omega)
          have hfw := HB.out.frozen k
          generalize (cells32 (extZ l0 k))[k]'(by omega) = old at hcw
          have HS2 := Lib.hid HS
          have HNW : Hid (nextW (extW (k - 16) l0) = (extW (k - 16) l0).getD k16 0 + sig0 ((extW (k - 16) l0).getD k15 0) + (extW (k - 16) l0).getD k7 0 + sig1 ((extW (k - 16) l0).getD k2 0)) := by show _ = _; rw [e16, e15, e7, e2]; exact hnw
          clear e16 e15 e7 e2 hnw hat hlen HS hlz
          generalize (extW (k - 16) l0).getD k16 0 = x16 at *
          generalize (extW (k - 16) l0).getD k15 0 = x15 at *
          generalize (extW (k - 16) l0).getD k7 0 = x7 at *
          generalize (extW (k - 16) l0).getD k2 0 = x2 at *
          go_wp2_with fail
          refine wp_region_still_tail 22 (by kernel_rfl) (by kernel_rfl) ?_
          simp only [List.take_succ_cons, List.take_zero, List.drop_succ_cons, List.drop_zero]
          repeat (first | still_step | still_call (sig1_any _ _) | still_call (sig0_any _ _))
          try refine wpStill_nil ?_
          change wpList _ _ _ _ _ wr.drew
          go_wp2
          have HV := Lib.hid (sum4 x16 (sig0 x15) x7 (sig1 x2))
          refine ⟨⟨k + 1, by omega, by omega, by go_num, ?_, (ho.trans (Only.setCell wr ⟨w.heap.size + 1 + 1, k, none⟩ _)).drew⟩, by simp [intOf]; omega⟩
          show Blk _ _ _ _
          rw [HV.out, ← HNW.out]
          have h3 := (HB.out.set k (.int .u32 ((nextW (extW (k - 16) l0)).toNat : Int))).drew
          rw [HS2.out _ rfl] at h3
          exact h3
        · have HK := Lib.hid (show k = 64 by omega)
          have HB8 : Kp (Blk wr (w.heap.size + 1 + 1) 114 (cells32 (wordsL b))) := ⟨by
            have h1 := HB.out
            rw [HK.out, HWL.out] at h1
            exact h1⟩
          have HLen : Kp ((cells32 (wordsL b)).length = 64) := ⟨by rw [cells32_length, wordsL_length]⟩
          have HB2r := Lib.hid (HB2.out.only ho (by omega))
          have HZ : Kp (zeroW.length = 64) := ⟨rfl⟩
          clear HB HWL
          go_wp2_with (first
            | (with_reducible refine wpList_loadAll (o := ⟨some 50, _, _, _, _, _⟩) rw64 rfl (.tmp 3) rfl rfl HB8.out HLen.out ?_)
            | (with_reducible refine wpList_storeAll (o := ⟨none, _, _, _, _, _⟩) (vs := cells32 (wordsL b)) rw64 rfl (.tmp 2) (.tmp 50) rfl rfl HB2r.out HZ.out HLen.out (cells32_one _) rfl ?_))
          intro w13 hk14 ho13
          have HK14 : Kp _ := ⟨hk14⟩
          clear hk14
          go_wp2
          exact ret_arr rfl rw64 rfl HK14.out HLen.out rfl ⟨rfl, (hB3.trans (ho.below (by omega))).trans (ho13.below (by omega))⟩
end Go.Proofs.Ythpfiieaanioeaa

namespace Go.Proofs.Ythpfiieaanioeaa
open Go.RowKit

def zeroSt : List Value := cells32 (List.replicate 8 0)
theorem tySt : Ty Try.prog 99 zeroSt := ⟨by kernel_rfl⟩
theorem rwSt : Rw Try.prog 99 (.array 8 97) 8 := ⟨by kernel_rfl, rfl, by kernel_rfl⟩

set_option maxRecDepth 100000 in
set_option maxHeartbeats 4000000 in
theorem start_any (w : World) : Calls Try.prog 66 #[] w fun e w' => e = .returned (.agg (cells32 St0.list).toArray) ∧ Below w.heap.size w w' := by
  go_enter Try.func66, Try.ntmps66
  go_wp2_with (with_reducible refine wpList_alloc (o := ⟨some 0, _, _, _, _, _⟩) tySt rfl rfl ?_)
  intro w1 hk1 hb1 hs1
  have HK1 : Kp _ := ⟨hk1⟩
  have HZ : Kp (zeroSt.length = 8) := ⟨rfl⟩
  have HL : Kp ((cells32 St0.list).length = 8) := ⟨rfl⟩
  clear hk1
  go_wp2_with (with_reducible refine wpList_storeAll (o := ⟨none, _, _, _, _, _⟩) (vs := cells32 St0.list) rwSt rfl (.tmp 0) (.tmp 1) rfl rfl HK1.out HZ.out HL.out (cells32_one _) rfl ?_)
  intro w2 hk2 ho2
  have HK2 : Kp _ := ⟨hk2⟩
  clear hk2
  go_wp2
  exact ret_arr rfl rwSt rfl HK2.out HL.out rfl ⟨rfl, hb1.trans (ho2.below (by omega))⟩
set_option maxRecDepth 100000 in
set_option maxHeartbeats 4000000 in
theorem keys_any (w : World) : Calls Try.prog 72 #[] w fun e w' => e = .returned (.agg (cells32 KL).toArray) ∧ Below w.heap.size w w' := by
  go_enter Try.func72, Try.ntmps72
  go_wp2_with (with_reducible refine wpList_alloc (o := ⟨some 0, _, _, _, _, _⟩) ty64 rfl rfl ?_)
  intro w1 hk1 hb1 hs1
  have HK1 : Kp _ := ⟨hk1⟩
  have HZ : Kp (zeroW.length = 64) := ⟨rfl⟩
  have HL : Kp ((cells32 KL).length = 64) := ⟨rfl⟩
  clear hk1
  go_wp2_with (with_reducible refine wpList_storeAll (o := ⟨none, _, _, _, _, _⟩) (vs := cells32 KL) rw64 rfl (.tmp 0) (.tmp 1) rfl rfl HK1.out HZ.out HL.out (cells32_one _) rfl ?_)
  intro w2 hk2 ho2
  have HK2 : Kp _ := ⟨hk2⟩
  clear hk2
  go_wp2
  exact ret_arr rfl rw64 rfl HK2.out HL.out rfl ⟨rfl, hb1.trans (ho2.below (by omega))⟩

theorem u32_sum' (a b : UInt32) : ((a.toNat : Int) + (b.toNat : Int)) % 4294967296 = ((a + b).toNat : Int) := by
  rw [UInt32.toNat_add]; omega
/-- the first j words are added -/
def mixS (s X : St) (j : Nat) : List UInt32 := (addS s X).list.take j ++ s.list.drop j
theorem St_at (s : St) (j : Nat) (h : j < 8) : (cells32 s.list)[j]? = some (.int .u32 ((s.list.getD j 0).toNat : Int)) := by
  have : j = 0 ∨ j = 1 ∨ j = 2 ∨ j = 3 ∨ j = 4 ∨ j = 5 ∨ j = 6 ∨ j = 7 := by omega
  rcases this with rfl | rfl | rfl | rfl | rfl | rfl | rfl | rfl <;> rfl
theorem mixS_at (s X : St) (j : Nat) (h : j < 8) : (cells32 (mixS s X j))[j]? = some (.int .u32 ((s.list.getD j 0).toNat : Int)) := by
  have : j = 0 ∨ j = 1 ∨ j = 2 ∨ j = 3 ∨ j = 4 ∨ j = 5 ∨ j = 6 ∨ j = 7 := by omega
  rcases this with rfl | rfl | rfl | rfl | rfl | rfl | rfl | rfl <;> rfl
theorem mixS_next (s X : St) (j : Nat) (h : j < 8) : (cells32 (mixS s X j)).set j (.int .u32 ((s.list.getD j 0 + X.list.getD j 0).toNat : Int)) = cells32 (mixS s X (j + 1)) := by
  have : j = 0 ∨ j = 1 ∨ j = 2 ∨ j = 3 ∨ j = 4 ∨ j = 5 ∨ j = 6 ∨ j = 7 := by omega
  rcases this with rfl | rfl | rfl | rfl | rfl | rfl | rfl | rfl <;> rfl

set_option maxRecDepth 100000 in
set_option maxHeartbeats 4000000 in
theorem compress_any (s : St) (b : List UInt8) (w : World) (hb : b.length = 64) :
    Calls Try.prog 67 #[.agg (cells32 s.list).toArray, .agg (cells8 b).toArray] w fun e w' => e = .returned (.agg (cells32 (stepS s b).list).toArray) ∧ Below w.heap.size w w' := by
  have HL : Kp (b.length = 64) := ⟨hb⟩
  have HL8 : Kp ((cells8 b).length = 64) := ⟨by rw [cells8_length]; exact hb⟩
  clear hb
  go_enter Try.func67, Try.ntmps67
  go_wp2_with (with_reducible refine wpList_box (o := ⟨some 2, _, _, _, _, _⟩) rfl (.tmp 0) rfl rfl ?_)
  intro w1 hk1 hb1 hs1
  have HK1 : Kp _ := ⟨hk1⟩
  clear hk1
  go_wp2_with (with_reducible refine wpList_box (o := ⟨some 3, _, _, _, _, _⟩) rfl (.tmp 1) rfl rfl ?_)
  intro w2 hk2 hb2 hs2
  have HK2 : Kp _ := ⟨hk2⟩
  clear hk2
  go_wp2_with (with_reducible refine wpList_alloc (o := ⟨some 4, _, _, _, _, _⟩) tySt rfl rfl ?_)
  intro w3 hk3 hb3 hs3
  have HB3 : Kp _ := ⟨hk3⟩
  have HB1 : Kp _ := ⟨(HK1.out.below hb2 (by omega)).below hb3 (by omega)⟩
  have HB2 : Kp _ := ⟨HK2.out.below hb3 (by omega)⟩
  have hB3 : Below w.heap.size w w3 := (hb1.trans (hb2.mono (by omega))).trans (hb3.mono (by omega))
  clear HK1 HK2 hk3 hb1 hb2 hb3 hs1 hs2
  go_wp2_with (with_reducible refine wpList_loadAll (o := ⟨some 20, _, _, _, _, _⟩) rwBlock rfl (.tmp 3) rfl rfl HB2.out HL8.out ?_)
  refine (schedule_any _ _ HL.out).mono ?_
  rintro e w4 ⟨rfl, hb4⟩
  have HWL : Kp ((cells32 (wordsL b)).length = 64) := ⟨by rw [cells32_length, wordsL_length]⟩
  have HKL : Kp ((cells32 KL).length = 64) := ⟨rfl⟩
  have HZ64 : Kp (zeroW.length = 64) := ⟨rfl⟩
  go_wp2_with fail
  refine (keys_any _).mono ?_
  rintro e w5 ⟨rfl, hb5⟩
  go_wp2_with (with_reducible refine wpList_alloc (o := ⟨some 5, _, _, _, _, _⟩) ty64 rfl rfl ?_)
  intro w6 hk6 hb6 hs6
  have HK6 : Kp _ := ⟨hk6⟩
  clear hk6
  go_wp2_with (with_reducible refine wpList_alloc (o := ⟨some 6, _, _, _, _, _⟩) ty64 rfl rfl ?_)
  intro w7 hk7 hb7 hs7
  have HK7 : Kp _ := ⟨hk7⟩
  have HK67 : Kp _ := ⟨HK6.out.below hb7 (by omega)⟩
  clear hk7
  go_wp2_with (with_reducible refine wpList_storeAll (o := ⟨none, _, _, _, _, _⟩) (vs := cells32 (wordsL b)) rw64 rfl (.tmp 5) (.tmp 21) rfl rfl HK67.out HZ64.out HWL.out (cells32_one _) rfl ?_)
  intro w8 hk8 ho8
  have HK8 : Kp _ := ⟨hk8⟩
  have HK78 : Kp _ := ⟨HK7.out.only ho8 (by omega)⟩
  clear hk8
  go_wp2_with (with_reducible refine wpList_storeAll (o := ⟨none, _, _, _, _, _⟩) (vs := cells32 KL) rw64 rfl (.tmp 6) (.tmp 22) rfl rfl HK78.out HZ64.out HKL.out (cells32_one _) rfl ?_)
  intro w9 hk9 ho9
  have HK9 : Kp _ := ⟨hk9⟩
  have n8 := ho8.size
  have n9 := ho9.size
  have n4 := hb4.size
  have n5 := hb5.size
  have hB59 : Below w5.heap.size w5 w9 := (((hb6.mono (by omega)).trans (hb7.mono (by omega))).trans (ho8.below (by omega))).trans (ho9.below (by omega))
  have hB49 : Below w4.heap.size w4 w9 := hb5.trans (hB59.mono (by omega))
  have hB39 : Below w3.heap.size w3 w9 := hb4.trans (hB49.mono (by omega))
  have HS9 : Kp (Blk w9 w.heap.size 99 (cells32 s.list)) := ⟨HB1.out.below hB39 (by omega)⟩
  have HR9 : Kp (Blk w9 (w.heap.size + 1 + 1) 99 zeroSt) := ⟨HB3.out.below hB39 (by omega)⟩
  have HW9 : Kp (Blk w9 w5.heap.size 114 (cells32 (wordsL b))) := ⟨HK8.out.only ho9 (by omega)⟩
  have hB9 : Below w.heap.size w w9 := hB3.trans (hB39.mono (by omega))
  have hl4 : w5.heap.size < w9.heap.size := by omega
  have hl7 : (w5.heap.size + 1) < w9.heap.size := by omega
  have hl1 : w.heap.size + 1 + 1 < w5.heap.size := by omega
  have hl2 : w.heap.size + 1 + 1 < (w5.heap.size + 1) := by omega
  clear HB1 HB2 HB3 HK6 HK7 HK67 HK78 HK8 hb4 hb5 hb6 hb7 ho8 ho9 hs3 hs6 hs7 n5 n9 n4 n8 hB3 hB59 hB49 hB39 HL8 HWL HKL HZ64
  have c0 : w9.cell? ⟨w.heap.size, 0, none⟩ = some (.int .u32 (s.a.toNat : Int)) := HS9.out.cell? 0
  have c1 : w9.cell? ⟨w.heap.size, 1, none⟩ = some (.int .u32 (s.b.toNat : Int)) := HS9.out.cell? 1
  have c2 : w9.cell? ⟨w.heap.size, 2, none⟩ = some (.int .u32 (s.c.toNat : Int)) := HS9.out.cell? 2
  have c3 : w9.cell? ⟨w.heap.size, 3, none⟩ = some (.int .u32 (s.d.toNat : Int)) := HS9.out.cell? 3
  have c4 : w9.cell? ⟨w.heap.size, 4, none⟩ = some (.int .u32 (s.e.toNat : Int)) := HS9.out.cell? 4
  have c5 : w9.cell? ⟨w.heap.size, 5, none⟩ = some (.int .u32 (s.f.toNat : Int)) := HS9.out.cell? 5
  have c6 : w9.cell? ⟨w.heap.size, 6, none⟩ = some (.int .u32 (s.g.toNat : Int)) := HS9.out.cell? 6
  have c7 : w9.cell? ⟨w.heap.size, 7, none⟩ = some (.int .u32 (s.h.toNat : Int)) := HS9.out.cell? 7
  go_wp2_with fail
  go_still (by kernel_rfl)
  change Exit.then _ _ _ _ w9.drew
  clear c0 c1 c2 c3 c4 c5 c6 c7
  go_wp2
  go_loopw [7, 8, 9, 10, 11, 12, 13, 14, 39] (fun v7 v8 v9 v10 v11 v12 v13 v14 v39 wr => ∃ (i : Nat) (a b' c d e f g h : UInt32), i ≤ 64 ∧ v39 = .int .i64 i ∧ v7 = .int .u32 a.toNat ∧ v8 = .int .u32 b'.toNat ∧ v9 = .int .u32 c.toNat ∧ v10 = .int .u32 d.toNat ∧ v11 = .int .u32 e.toNat ∧ v12 = .int .u32 f.toNat ∧ v13 = .int .u32 g.toNat ∧ v14 = .int .u32 h.toNat ∧ Kp (rounds (wordsL b) s i = ⟨a, b', c, d, e, f, g, h⟩) ∧ Below w9.heap.size w9 wr) (fun _ _ _ _ _ _ _ _ v39 _ => 64 - (intOf v39).toNat)
  case atStart => exact ⟨0, s.a, s.b, s.c, s.d, s.e, s.f, s.g, s.h, Nat.zero_le _, rfl, rfl, rfl, rfl, rfl, rfl, rfl, rfl, rfl, ⟨rfl⟩, (Below.refl _ _).drew⟩
  case round =>
    obtain ⟨i, sa, sb, sc, sd, se, sf, sg, sh, hi, rfl, rfl, rfl, rfl, rfl, rfl, rfl, rfl, rfl, HR, hbr⟩ := hrel
    by_cases hlt : i < 64
    · have cw : wr.cell? ⟨w5.heap.size, i, none⟩ = some (.int .u32 (((wordsL b).getD i 0).toNat : Int)) := by
        rw [(HW9.out.below hbr hl4).cell? i, cells32_at _ i (by rw [wordsL_length]; exact hlt)]
        simp [List.getD, List.getElem?_eq_getElem (show i < (wordsL b).length by rw [wordsL_length]; exact hlt)]
      have ck : wr.cell? ⟨(w5.heap.size + 1), i, none⟩ = some (.int .u32 ((KL.getD i 0).toNat : Int)) := by
        rw [(HK9.out.below hbr hl7).cell? i, cells32_at _ i (by rw [KL_length]; exact hlt)]
        simp [List.getD, List.getElem?_eq_getElem (show i < KL.length by rw [KL_length]; exact hlt)]
      have HN : Kp (rounds (wordsL b) s (i + 1) = rnd (rounds (wordsL b) s i) (KL.getD i 0) ((wordsL b).getD i 0)) := ⟨rfl⟩
      generalize KL.getD i 0 = kk at *
      generalize (wordsL b).getD i 0 = ww at *
      go_wp2_with fail
      refine wp_region_still_lit (by kernel_rfl) (by kernel_rfl) ?_
      repeat (first | still_step | still_call (big1_any _ _) | still_call (choose_any _ _ _ _))
      refine wpStill_nil ?_
      change Exit.then _ _ _ _ wr.drew
      rw [u32_add, u32_add, u32_add, u32_add]
      have HT : Kp (sh + big1 se + chR se sf sg + kk + ww = tOf ⟨sa, sb, sc, sd, se, sf, sg, sh⟩ kk ww) := ⟨rfl⟩
      generalize sh + big1 se + chR se sf sg + kk + ww = tt at *
      clear cw ck
      go_wp2_with (first
        | (go_at_call 75; refine (big0_any _ _).mono ?_; rintro e w' ⟨rfl, rfl⟩)
        | (go_at_call 76; refine (most_any _ _ _ _).mono ?_; rintro e w' ⟨rfl, rfl⟩))
      refine ⟨⟨i + 1, tt + uOf ⟨sa, sb, sc, sd, se, sf, sg, sh⟩, sa, sb, sc, sd + tt, se, sf, sg, by omega, by go_num, ?_, rfl, rfl, rfl, ?_, rfl, rfl, rfl, ⟨?_⟩, hbr.drew⟩, by simp [intOf]; omega⟩
      · rw [u32_sum', u32_sum']; rfl
      · rw [u32_sum']
      · rw [HN.out, HR.out, HT.out]; rfl
    · have HI : Kp (i = 64) := ⟨by omega⟩
      have HX : Kp (stepS s b = addS s ⟨sa, sb, sc, sd, se, sf, sg, sh⟩) := ⟨by unfold stepS; rw [← HR.out, HI.out]⟩
      have HSr : Kp _ := ⟨HS9.out.below hbr (by omega)⟩
      have HRr : Kp _ := ⟨HR9.out.below hbr (by omega)⟩
      have hBr : Below w.heap.size w wr := hB9.trans (hbr.mono (by omega))
      have hsr := hbr.size
      have hlr : w.heap.size + 1 + 1 < wr.heap.size := by omega
      obtain ⟨wx, rfl⟩ : ∃ x, x = wr := ⟨wr, rfl⟩
      clear HS9 HR9 HW9 HK9 HR hbr hB9 hsr
      go_wp2_with (with_reducible refine wpList_alloc (o := ⟨some 18, _, _, _, _, _⟩) tySt rfl rfl ?_)
      intro w10 hk10 hb10 hs10
      have HK10 : Kp _ := ⟨hk10⟩
      have HZ8 : Kp (zeroSt.length = 8) := ⟨rfl⟩
      have HL8 : Kp ((cells32 [sa, sb, sc, sd, se, sf, sg, sh]).length = 8) := ⟨rfl⟩
      clear hk10
      go_wp2_with (with_reducible refine wpList_storeAll (o := ⟨none, _, _, _, _, _⟩) (vs := cells32 [sa, sb, sc, sd, se, sf, sg, sh]) rwSt rfl (.tmp 18) (.tmp 87) rfl rfl HK10.out HZ8.out HL8.out (cells32_one _) rfl ?_)
      intro w11 hk11 ho11
      have HX11 : Kp (Blk w11 wx.heap.size 99 (cells32 (St.mk sa sb sc sd se sf sg sh).list)) := ⟨hk11⟩
      clear hk11
      have HS11 : Kp (Blk w11 w.heap.size 99 (cells32 (mixS s ⟨sa, sb, sc, sd, se, sf, sg, sh⟩ 0))) := ⟨(HSr.out.below hb10 (by omega)).only ho11 (by omega)⟩
      have HR11 : Kp _ := ⟨(HRr.out.below hb10 (by omega)).only ho11 (by omega)⟩
      have hB11 : Below w.heap.size w w11 := (hBr.trans (hb10.mono (by omega))).trans (ho11.below (by omega))
      clear HSr HRr hBr hb10 ho11 HK10 hs10
      generalize St.mk sa sb sc sd se sf sg sh = X at *
      go_wp2
      go_loopw [88] (fun v wr => ∃ j : Nat, j ≤ 8 ∧ v = .int .i64 j ∧ Kp (Blk wr w.heap.size 99 (cells32 (mixS s X j))) ∧ Only w.heap.size w11 wr) (fun v _ => 8 - (intOf v).toNat)
      case atStart => exact ⟨0, Nat.zero_le _, rfl, HS11, Only.refl _ _⟩
      case round =>
        clear HS11
        obtain ⟨j, hj, rfl, HB, ho⟩ := hrel
        by_cases hlt2 : j < 8
        · have cs : wr.cell? ⟨w.heap.size, j, none⟩ = some (.int .u32 ((s.list.getD j 0).toNat : Int)) := by rw [HB.out.cell? j]; exact mixS_at s X j hlt2
          have cx : wr.cell? ⟨wx.heap.size, j, none⟩ = some (.int .u32 ((X.list.getD j 0).toNat : Int)) := by rw [(HX11.out.only ho (by omega)).cell? j]; exact St_at X j hlt2
          have hfw := HB.out.frozen j
          have HN : Kp _ := ⟨mixS_next s X j hlt2⟩
          generalize s.list.getD j 0 = ss at *
          generalize X.list.getD j 0 = xx at *
          go_wp2_with fail
          go_still_tail 7, (by kernel_rfl)
          change wpList _ _ _ _ _ wr.drew
          go_wp2
          have HV : Kp _ := ⟨u32_sum' ss xx⟩
          refine ⟨⟨j + 1, by omega, by go_num, ⟨?_⟩, (ho.trans (Only.setCell wr ⟨w.heap.size, j, none⟩ _)).drew⟩, by simp [intOf]; omega⟩
          rw [HV.out]
          have h3 := (HB.out.set j (.int .u32 ((ss + xx).toNat : Int))).drew
          rw [HN.out] at h3
          exact h3
        · have HJ : Kp (j = 8) := ⟨by omega⟩
          have HB8 : Kp (Blk wr w.heap.size 99 (cells32 (stepS s b).list)) := ⟨by
            have h1 := HB.out
            rw [HJ.out] at h1
            rw [HX.out]
            exact h1⟩
          have HLen : Kp ((cells32 (stepS s b).list).length = 8) := ⟨rfl⟩
          have HRr : Kp _ := ⟨HR11.out.only ho (by omega)⟩
          clear HB HX
          go_wp2_with (first
            | (with_reducible refine wpList_loadAll (o := ⟨some 100, _, _, _, _, _⟩) rwSt rfl (.tmp 2) rfl rfl HB8.out HLen.out ?_)
            | (with_reducible refine wpList_storeAll (o := ⟨none, _, _, _, _, _⟩) (vs := cells32 (stepS s b).list) rwSt rfl (.tmp 4) (.tmp 100) rfl rfl HRr.out HZ8.out HLen.out (cells32_one _) rfl ?_))
          intro w13 hk14 ho13
          have HK14 : Kp _ := ⟨hk14⟩
          clear hk14
          go_wp2
          exact ret_arr rfl rwSt rfl HK14.out HLen.out rfl ⟨rfl, (hB11.trans (ho.below (by omega))).trans (ho13.below (by omega))⟩
end Go.Proofs.Ythpfiieaanioeaa

namespace Go.Proofs.Ythpfiieaanioeaa
open Go.RowKit

set_option maxRecDepth 100000 in
set_option maxHeartbeats 4000000 in
theorem digest_any (S : St) (w : World) :
    Calls Try.prog 64 #[.agg (cells32 S.list).toArray] w fun e w' => e = .returned (.agg (cells8 (digestL S)).toArray) ∧ Below w.heap.size w w' := by
  go_enter Try.func64, Try.ntmps64
  go_wp2_with (with_reducible refine wpList_box (o := ⟨some 1, _, _, _, _, _⟩) rfl (.tmp 0) rfl rfl ?_)
  intro w1 hk1 hb1 hs1
  have HK1 : Kp _ := ⟨hk1⟩
  clear hk1
  go_wp2_with (with_reducible refine wpList_alloc (o := ⟨some 2, _, _, _, _, _⟩) tyDig rfl rfl ?_)
  intro w2 hk2 hb2 hs2
  have HK2 : Kp _ := ⟨hk2⟩
  clear hk2
  go_wp2_with (with_reducible refine wpList_alloc (o := ⟨some 3, _, _, _, _, _⟩) tyDig rfl rfl ?_)
  intro w3 hk3 hb3 hs3
  have HB3 : Kp (Blk w3 (w.heap.size + 1 + 1) 43 (cells8 (outAt (digestL S) 0))) := ⟨hk3⟩
  have HB2 : Kp _ := ⟨HK2.out.below hb3 (by omega)⟩
  have HB1 : Kp _ := ⟨(HK1.out.below hb2 (by omega)).below hb3 (by omega)⟩
  have hB3 : Below w.heap.size w w3 := (hb1.trans (hb2.mono (by omega))).trans (hb3.mono (by omega))
  clear HK1 HK2 hk3 hb1 hb2 hb3 hs1 hs2 hs3
  go_wp2
  go_loopw [5] (fun v wr => ∃ j : Nat, j ≤ 32 ∧ v = .int .i64 j ∧ Kp (Blk wr (w.heap.size + 1 + 1) 43 (cells8 (outAt (digestL S) j))) ∧ Only (w.heap.size + 1 + 1) w3 wr) (fun v _ => 32 - (intOf v).toNat)
  case atStart => exact ⟨0, Nat.zero_le _, rfl, HB3, Only.refl _ _⟩
  case round =>
    clear HB3
    obtain ⟨j, hj, rfl, HB, ho⟩ := hrel
    by_cases hlt : j < 32
    · obtain ⟨q, hq⟩ : ∃ q, q = j / 4 := ⟨_, rfl⟩
      obtain ⟨r, hr⟩ : ∃ r, r = j % 4 := ⟨_, rfl⟩
      have hq8 : q < 8 := by omega
      have hr4 : r < 4 := by omega
      have HJ : Kp (4 * q + r = j) := ⟨by omega⟩
      have cs : wr.cell? ⟨w.heap.size, q, none⟩ = some (.int .u32 ((S.list.getD q 0).toNat : Int)) := by rw [(HB1.out.only ho (by omega)).cell? q]; exact St_at S q hq8
      have hqi : ((j : Int) / 4) = (q : Int) := by omega
      have hqw : IntKind.i64.wrap (q : Int) = (q : Int) := by rw [IntKind.wrap_i64]; omega
      have hq8i : (q : Int) < 8 := by omega
      have hlen : (cells8 (outAt (digestL S) j)).length = 32 := by rw [cells8_length, outAt_length _ (digestL_length S) _ hj]
      have hco := HB.out.cell (i := j) (by omega)
      have hfo := HB.out.frozen j
      have HSet : Kp _ := ⟨outAt_set (digestL S) (digestL_length S) j hlt⟩
      have HDB : Kp (((((digestL S).getD j 0).toNat : Nat) : Int) = ((S.list.getD q 0).toNat : Int) / ((256 ^ (3 - r) : Nat) : Int) % 256) := ⟨by rw [← HJ.out]; exact digest_byte S q r hq8 hr4⟩
      generalize (cells8 (outAt (digestL S) j))[j]'(by omega) = old at hco
      generalize S.list.getD q 0 = x at *
      generalize (digestL S).getD j 0 = y at *
      have hri : ((j : Int) % 4) = (r : Int) := by omega
      have hjj : (j : Int) < 32 := by omega
      clear hq hr hlen HJ
      have hcase : r = 0 ∨ r = 1 ∨ r = 2 ∨ r = 3 := by omega
      rcases hcase with rfl | rfl | rfl | rfl
      all_goals
        go_wp2
        refine ⟨⟨j + 1, by omega, by go_num, ⟨?_⟩, ho.trans (Only.setCell wr ⟨w.heap.size + 1 + 1, j, none⟩ _)⟩, by simp [intOf]; omega⟩
        have h3 := HB.out.set j (.int .u8 (y.toNat : Int))
        rw [HSet.out] at h3
        have e2 := HDB.out
        simp at e2
        rw [e2] at h3
        exact h3
    · have HJ : Kp (j = 32) := ⟨by omega⟩
      have HLen : Kp ((cells8 (digestL S)).length = 32) := ⟨by rw [cells8_length, digestL_length]⟩
      have HB8 : Kp (Blk wr (w.heap.size + 1 + 1) 43 (cells8 (digestL S))) := ⟨by
        have h1 := HB.out
        rw [HJ.out, outAt_end _ (digestL_length S)] at h1
        exact h1⟩
      have HRr : Kp _ := ⟨HB2.out.only ho (by omega)⟩
      have HZ : Kp (zero32.length = 32) := ⟨rfl⟩
      clear HB HB1 HB2
      go_wp2_with (first
        | (with_reducible refine wpList_loadAll (o := ⟨some 21, _, _, _, _, _⟩) rwDig rfl (.tmp 3) rfl rfl HB8.out HLen.out ?_)
        | (with_reducible refine wpList_storeAll (o := ⟨none, _, _, _, _, _⟩) (vs := cells8 (digestL S)) rwDig rfl (.tmp 2) (.tmp 21) rfl rfl HRr.out HZ.out HLen.out (cells8_one _) rfl ?_))
      intro w13 hk14 ho13
      have HK14 : Kp _ := ⟨hk14⟩
      clear hk14
      go_wp2
      exact ret_arr rfl rwDig rfl HK14.out HLen.out rfl ⟨rfl, (hB3.trans (ho.below (by omega))).trans (ho13.below (by omega))⟩
end Go.Proofs.Ythpfiieaanioeaa

namespace Go.Proofs.Ythpfiieaanioeaa
open Go.RowKit

theorem blk_of_own {w : World} {base g n : Nat} {e : TypeId} {xs : List Value} (h : w.ownsRow base e 1 (.slice (some ⟨g, 0, none⟩) n n) n xs) : Blk w g e xs := ⟨(own_full h).1⟩
/-- the ending, the last k bytes laid -/
def endK (n z k : Nat) : List UInt8 := 128 :: (List.replicate (z + 8 - k) 0 ++ putN (8 * n) k)
theorem endK_first (n z : Nat) : (cells8 (List.replicate (z + 9) 0)).set 0 (.int .u8 128) = cells8 (endK n z 0) := by
  unfold endK
  rw [show z + 9 = (z + 8) + 1 by omega, List.replicate_succ]
  simp [cells8, putN]
theorem endK_next (n z k p : Nat) (h : k < 8) (hp : p + 1 + k = z + 9) : (cells8 (endK n z k)).set p (.int .u8 (((8 * n : Nat) : Int) / 2 ^ (8 * k) % 256)) = cells8 (endK n z (k + 1)) := by
  unfold endK
  have e := put_row (n := 8 * n) (N := z + 8) (k := k) (by omega)
  obtain ⟨p', rfl⟩ : ∃ p', p = p' + 1 := ⟨p - 1, by omega⟩
  rw [show p' = z + 8 - 1 - k by omega]
  simp only [cells8, List.map_cons] at e ⊢
  rw [List.set_cons_succ, e]
theorem endK_end (n : Nat) : endK n ((119 - n % 64) % 64) 8 = ending n := by unfold endK ending; simp
theorem endK_length (n z k : Nat) (h : k ≤ 8) : (cells8 (endK n z k)).length = z + 9 := by rw [cells8_length]; simp [endK, putN_length]; omega

set_option maxRecDepth 100000 in
set_option maxHeartbeats 4000000 in
theorem ending_any (n : Nat) (w : World) (hn : n ≤ 1048576) :
    Calls Try.prog 63 #[.int .u64 n] w fun e w' => ∃ v, e = .returned v ∧ w'.ownsRow w.heap.size 5 1 v (ending n).length (cells8 (ending n)) ∧ Below w.heap.size w w' := by
  obtain ⟨Z, hZ⟩ : ∃ Z, Z = (119 - n % 64) % 64 := ⟨_, rfl⟩
  have hz : (119 - (n : Int) % 64) % 64 = (Z : Int) := by omega
  have hZ64 : Z < 64 := by omega
  have HZ : Kp _ := ⟨hZ⟩
  clear hZ
  obtain ⟨M, hM⟩ : ∃ M, M = Z + 9 := ⟨_, rfl⟩
  have hM1 : (9 : Int) ≤ (M : Int) := by omega
  have hM2 : (M : Int) ≤ 72 := by omega
  have hM3 : 0 < M := by omega
  have HM : Kp _ := ⟨hM⟩
  clear hM
  go_enter Try.func63, Try.ntmps63
  go_wp2_with (with_reducible refine wpList_mk (o := ⟨some 13, _, _, _, _, _⟩) el8 rfl (.tmp 12) (.tmp 12) rfl w.heap.size .u64 .u64 _ _ M rfl rfl (by have := HM.out; omega) (by have := HM.out; omega) (by have := HM.out; omega) (by have := HM.out; simp only [maxLen]; omega) (Nat.le_refl _) ?_)
  intro w1 hown1 hg1
  have hb1 : Below w.heap.size w w1 := (Below.refl _ _).grown hg1 (Nat.le_refl _) (by simp)
  have HB1 : Kp (Blk w1 w.heap.size 5 (cells8 (List.replicate (Z + 9) 0))) := ⟨by
    have h1 := blk_of_own hown1
    rw [HM.out] at h1
    rw [cells8, List.map_replicate]
    exact h1⟩
  have hc0 : w1.cell? ⟨w.heap.size, 0, none⟩ = some (.int .u8 0) := by
    rw [HB1.out.cell? 0, List.replicate_succ]; rfl
  have hf0 := HB1.out.frozen 0
  clear hown1 hg1
  go_wp2
  go_loopw [16] (fun v wr => ∃ k : Nat, k ≤ 8 ∧ v = .int .i64 k ∧ Kp (Blk wr w.heap.size 5 (cells8 (endK n Z k))) ∧ Below w.heap.size w wr) (fun v _ => 8 - (intOf v).toNat)
  case atStart =>
    refine ⟨0, Nat.zero_le _, rfl, ⟨?_⟩, hb1.setCell (Nat.le_refl _) _⟩
    rw [← endK_first]
    exact HB1.out.set 0 (.int .u8 128)
  case round =>
    clear HB1 hc0 hf0 hb1
    obtain ⟨k, hk, rfl, HB, hb⟩ := hrel
    by_cases hlt : k < 8
    · obtain ⟨p, hp⟩ : ∃ p, p = M - 1 - k := ⟨_, rfl⟩
      have hpM : p < M := by omega
      have hpi : (M : Int) - 1 - (k : Int) = (p : Int) := by omega
      have hlen := endK_length n Z k hk
      have hM9 := HM.out
      have hco := HB.out.cell (i := p) (by omega)
      have hfo := HB.out.frozen p
      have HSet : Kp _ := ⟨endK_next n Z k p hlt (by omega)⟩
      generalize (cells8 (endK n Z k))[p]'(by omega) = old at hco
      have hpi2 : (p : Int) < (M : Int) := by omega
      clear hp hlen hM9
      go_wp2
      refine ⟨⟨k + 1, by omega, by go_num, ⟨?_⟩, hb.setCell (Nat.le_refl _) _⟩, by simp [intOf]; omega⟩
      have h3 := HB.out.set p (.int .u8 (((8 * n : Nat) : Int) / 2 ^ (8 * k) % 256))
      rw [HSet.out, show ((8 * n : Nat) : Int) = (n : Int) * 8 by omega] at h3
      exact h3
    · have HK : Kp (k = 8) := ⟨by omega⟩
      go_wp2
      go_ret
      refine ⟨_, rfl, ?_, hb⟩
      have h1 := HB.out
      have e : (ending n).length = M := by
        have h2 := endK_length n Z 8 (Nat.le_refl _)
        rw [cells8_length] at h2
        rw [← endK_end, ← HZ.out, h2, HM.out]
      rw [HK.out, HZ.out, endK_end] at h1
      rw [e]
      exact own_of_full h1.heap (Nat.le_refl _) (by simp only [maxLen]; omega) (by rw [cells8_length, e])
end Go.Proofs.Ythpfiieaanioeaa

namespace Go.Proofs.Ythpfiieaanioeaa
open Go.RowKit

/-- a block of bytes that has just been laid -/
theorem Bs.laid (w : World) (t : TypeId) (l : List UInt8) (hm : l.length ≤ maxLen) : Bs (w.alloc (.cells (cells8 l).toArray t)) (w.heap.size + 1) (some ⟨w.heap.size, 0, none⟩) l.length l.length l := by
  refine ⟨rfl, Nat.le_refl _, hm, (fun h => by cases h), fun _ => ⟨w.heap.size, 0, rfl, by omega, fun j hj => ?_⟩⟩
  rw [World.cell?_alloc_at _ _ _ _ rfl]
  have := cells8_at l j hj
  simpa using this
/-- A slice reads as the bytes l, and none of its cells lies in block g. -/
structure BsA (w : World) (g : Nat) (A : Option Addr) (n c : Nat) (l : List UInt8) : Prop where
  bs : Bs w w.heap.size A n c l
  apart : ∀ ad, A = some ad → 0 < n → ad.block ≠ g
/-- A slice reads as the lists ls of bytes, and none of the cells lies in block g. -/
structure LsA (w : World) (g : Nat) (A : Option Addr) (n c : Nat) (ls : List (List UInt8)) : Prop where
  len : ls.length = n
  cap : n ≤ c
  max : c ≤ maxLen
  cells : 0 < n → ∃ b o, A = some ⟨b, o, none⟩ ∧ b < w.heap.size ∧ b ≠ g ∧ ∀ j (h : j < ls.length), ∃ A' n' c', w.cell? ⟨b, o + j, none⟩ = some (.slice A' n' c') ∧ BsA w g A' n' c' ls[j]
section
variable {w w' : World} {B : Nat} {g : Nat} {A : Option Addr} {n c : Nat} {l : List UInt8} {ls : List (List UInt8)}
theorem BsA.of_bs (h : Bs w B A n c l) (hB : B ≤ g) (hw : B ≤ w.heap.size) : BsA w g A n c l :=
  ⟨h.more hw, fun ad hA h0 => by
    obtain ⟨b, o, hA', hb, _⟩ := h.cells h0
    rw [hA] at hA'
    obtain rfl := Option.some.inj hA'
    simp; omega⟩
theorem BsA.of_own {base : Nat} {e : TypeId} {v : Value} (h : w.ownsRow base e 1 v n (cells8 l)) (hg : g < base) : ∃ A c, v = .slice A n c ∧ BsA w g A n c l := by
  obtain ⟨A, c, rfl, hb⟩ := Bs.of_own h
  obtain ⟨A', c', e1, _, _, _, hs⟩ := own_form h
  injection e1 with e2 _ e3
  subst e2
  subst e3
  exact ⟨A, c, rfl, hb, fun ad hA _ => by
    obtain ⟨k, rfl, hk, _⟩ := hs ad hA
    simp; omega⟩
theorem BsA.grown (h : BsA w g A n c l) (hg : w.grownBy w' (some g)) : BsA w' g A n c l :=
  ⟨(h.bs.grown (w' := w') (g := some g) (fun k hk hlt => hg.block k hlt (fun e => hk (by rw [e]))) (fun ad hA h0 e => h.apart ad hA h0 (Option.some.inj e).symm)).more hg.size, h.apart⟩
theorem LsA.le (h : LsA w g A n c ls) : n ≤ 9223372036854775807 := by have := h.cap; have := h.max; simp only [maxLen] at this; omega
theorem LsA.grown (h : LsA w g A n c ls) (hg : w.grownBy w' (some g)) : LsA w' g A n c ls :=
  ⟨h.len, h.cap, h.max, fun h0 => by
    obtain ⟨b, o, hA, hb, hne, hc⟩ := h.cells h0
    refine ⟨b, o, hA, Nat.lt_of_lt_of_le hb hg.size, hne, fun j hj => ?_⟩
    obtain ⟨A', n', c', h1, h2⟩ := hc j hj
    refine ⟨A', n', c', ?_, h2.grown hg⟩
    rw [← h1]
    exact World.cell?_of_block (w := w) (hg.block b hb (fun e => hne (Option.some.inj e)))⟩
theorem LsA.at (h : LsA w g A n c ls) {i : Nat} (hi : i < n) : ∃ b o A' n' c', A = some ⟨b, o, none⟩ ∧ b < w.heap.size ∧ w.cell? ⟨b, o + i, none⟩ = some (.slice A' n' c') ∧ BsA w g A' n' c' (ls[i]'(by have := h.len; omega)) := by
  obtain ⟨b, o, hA, hb, _, hc⟩ := h.cells (by omega)
  obtain ⟨A', n', c', h1, h2⟩ := hc i (by have := h.len; omega)
  exact ⟨b, o, A', n', c', hA, hb, h1, h2⟩
theorem LsA.of_ls (h : Ls w B A n c ls) (hB : B ≤ g) (hw : B ≤ w.heap.size) : LsA w g A n c ls :=
  ⟨h.len, h.cap, h.max, fun h0 => by
    obtain ⟨b, o, hA, hb, hc⟩ := h.cells h0
    refine ⟨b, o, hA, by omega, by omega, fun j hj => ?_⟩
    obtain ⟨A', n', c', h1, h2⟩ := hc j hj
    exact ⟨A', n', c', h1, BsA.of_bs h2 hB hw⟩⟩
/-- one slice, laid in a block of its own, is a list of one -/
theorem LsA.one (t : TypeId) (h : BsA w g A n c l) (hg : g < w.heap.size) : LsA (w.alloc (.cells #[.slice A n c] t)) g (some ⟨w.heap.size, 0, none⟩) 1 1 [l] := by
  refine ⟨rfl, Nat.le_refl _, by simp [maxLen], fun _ => ⟨w.heap.size, 0, rfl, by simp, by omega, fun j hj => ?_⟩⟩
  obtain rfl : j = 0 := by simp at hj; omega
  refine ⟨A, n, c, ?_, ⟨(h.bs.alloc (Nat.le_refl _) _).more (by simp), h.apart⟩⟩
  rw [World.cell?_alloc_at _ _ _ _ rfl]; rfl
theorem grown_below {w' : World} (hb : Below w.heap.size w w') (row : Option Nat) : w.grownBy w' row := ⟨hb.os, hb.tape, hb.output, hb.size, fun k hk _ => hb.block k hk⟩
theorem grown_only (h : Only g w w') : w.grownBy w' (some g) := ⟨h.os, h.tape, h.output, by rw [h.size]; exact Nat.le_refl _, fun k _ hne => h.block k (fun e => hne (by rw [e]))⟩
theorem grown_trans {w2 : World} {row : Option Nat} (h : w.grownBy w' row) (h2 : w'.grownBy w2 row) : w.grownBy w2 row :=
  ⟨h2.os.trans h.os, h2.tape.trans h.tape, h2.output.trans h.output, Nat.le_trans h.size h2.size, fun k hk hne => (h2.block k (Nat.lt_of_lt_of_le hk h.size) hne).trans (h.block k hk hne)⟩
theorem grown_refl (w : World) (row : Option Nat) : w.grownBy w row := ⟨rfl, rfl, rfl, Nat.le_refl _, fun _ _ _ => rfl⟩
theorem grown_drew (w : World) (row : Option Nat) : w.grownBy w.drew row := ⟨rfl, rfl, rfl, Nat.le_refl _, fun _ _ _ => rfl⟩
theorem grown_set (w : World) (g i : Nat) (v : Value) : w.grownBy (w.setCell ⟨g, i, none⟩ v) (some g) := grown_only (Only.setCell w ⟨g, i, none⟩ v)
theorem below_grown {w' : World} (h : w.grownBy w' (some g)) (hB : B ≤ g) (hw : B ≤ w.heap.size) : Below B w w' := ⟨h.os, h.tape, h.output, h.size, fun k hk => h.block k (by omega) (fun e => by have := Option.some.inj e; omega)⟩
theorem own_grown {base n : Nat} {e : TypeId} {v : Value} {xs : List Value} (h : w.ownsRow base e 1 v n xs) (hg : w.grownBy w' (some g)) (hb : g < base) : w'.ownsRow base e 1 v n xs := by
  refine ⟨h.1, ?_⟩
  rcases h.2 with h1 | ⟨k, cap, cur, h1, hk, hh, hr⟩
  · exact .inl h1
  · exact .inr ⟨k, cap, cur, h1, hk, (hg.block k (Array.getElem?_eq_some_iff.1 hh).1 (fun e => by have := Option.some.inj e; omega)).trans hh, hr⟩
theorem Blk.grown {k : Nat} {t : TypeId} {cs : List Value} (h : Blk w k t cs) (hg : w.grownBy w' (some g)) (hk : k ≠ g) : Blk w' k t cs := ⟨(hg.block k h.lt (fun e => hk (Option.some.inj e))).trans h.heap⟩
end
section
variable {P : Program} {w : World} {ops : Array Oper} {rest : List Oper} {o : Oper} {a : Act} {Q : Exit → Act → World → Prop} {t e : TypeId} {z : Value} {bytes : Nat}
/-- x[i:] of bytes that lie apart -/
theorem wpList_cut_lA (E : El P t e z bytes) (hg : o.guard = none) (x lo : Operand) (hop : o.op = Op.slice t x (some lo) none none)
    {g : Nat} {A : Option Addr} {n c : Nat} {l : List UInt8} (hx : a.eval x = .slice A n c) (hb : BsA w g A n c l) (k : IntKind) (I : Int) (i : Nat) (hlo : a.eval lo = .int k I) (hI : I = i) (hi : i ≤ n)
    (h : ∀ A' d, BsA w g A' (n - i) d (l.drop i) → wpList P ops Q rest (a.put o.dst (.slice A' (n - i) d)) w) : wpList P ops Q (o :: rest) a w := by
  subst hI
  refine wpList_plain hg fun K hK => ?_
  have hrun := run_slice_l (P := P) (w := w) t A n c E.ty' k (i : Int) (by omega) (by omega)
  rw [E.sizeOf] at hrun
  have h2 := hb.bs.cut (i := i) (k := n) hi (Nat.le_refl _)
  rw [List.take_of_length_le (by rw [hb.bs.len]; exact Nat.le_refl _)] at h2
  unfold Oper.wp
  simp [execOp, hop, hx, hlo, run_sliceAt_slice (P := P) (w := w) t _ _ _ _ E.ty', hrun, Result.andThen, sliced]
  refine hK _ _ (h _ _ ⟨h2, fun ad hA h0 => ?_⟩)
  have hc := hb.bs.cap
  rw [if_neg (by omega)] at hA
  cases A with
  | none => simp at hA
  | some ad0 =>
    simp at hA
    have := hb.apart ad0 rfl (by omega)
    rw [← hA]
    unfold Addr.add
    split <;> exact this
end
end Go.Proofs.Ythpfiieaanioeaa

namespace Go.Proofs.Ythpfiieaanioeaa

theorem take_flat (ls : List (List UInt8)) (k : Nat) (h : k < ls.length) : (ls.take (k + 1)).flatten = (ls.take k).flatten ++ ls[k] := by
  rw [List.take_succ_eq_append_getElem h, List.flatten_append]; simp
theorem take_flat_le (ls : List (List UInt8)) (k : Nat) : (ls.take k).flatten.length ≤ ls.flatten.length := by
  conv => rhs; rw [← List.take_append_drop k ls, List.flatten_append, List.length_append]
  omega
theorem take_flat_len (ls : List (List UInt8)) (k : Nat) (h : k < ls.length) : (ls.take (k + 1)).flatten.length = (ls.take k).flatten.length + ls[k].length := by
  rw [take_flat ls k h, List.length_append]
end Go.Proofs.Ythpfiieaanioeaa
