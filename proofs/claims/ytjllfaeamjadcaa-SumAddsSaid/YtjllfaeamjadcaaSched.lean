/- The contract of package sha's schedule. -/
import Derived.Test.YtjllfaeamjadcaaRot
import Derived.Test.YtjllfaeamjadcaaArr
import Derived.BigQuiet
import Derived.Deep.QuietTactic
import Derived.StillTailTactics
namespace Go.Proofs.Ytjllfaeamjadcaa
open Go.RowKit

/-- numbers as words' cells -/
def cellsU (l : List Nat) : List Value := l.map fun (x : Nat) => Value.int .u32 (x : Int)
theorem cellsU_length (l : List Nat) : (cellsU l).length = l.length := by simp [cellsU]
theorem cellsU_one (l : List Nat) : ∀ u ∈ cellsU l, u.oneCell' = true := by
  intro u hu
  obtain ⟨_, _, rfl⟩ := List.mem_map.1 hu
  rfl
theorem cellsU_some {l : List Nat} {q x : Nat} (h : l[q]? = some x) : (cellsU l)[q]? = some (.int .u32 (x : Int)) := by
  simp [cellsU, h]
/-- the words, behind i bytes -/
def partW (b : List UInt8) (i : Nat) : List Nat := (List.range 64).map fun q => getN ((b.take (min i (4 * q + 4))).drop (4 * q))
theorem partW_length (b : List UInt8) (i : Nat) : (partW b i).length = 64 := by simp [partW]
theorem partW_at (b : List UInt8) (i q : Nat) (hq : q < 64) : (partW b i)[q]? = some (getN ((b.take (min i (4 * q + 4))).drop (4 * q))) := by
  simp [partW, hq]
theorem partW_next (b : List UInt8) (i : Nat) (hi : i < 64) (hb : b.length = 64) :
    partW b (i + 1) = (partW b i).set (i / 4) (getN ((b.take i).drop (4 * (i / 4))) * 256 + (b[i]'(by omega)).toNat) := by
  apply List.ext_getElem (by simp [partW])
  intro q h1 h2
  have hq : q < 64 := by simpa [partW] using h1
  rw [List.getElem_set]
  simp only [partW, List.getElem_map, List.getElem_range]
  by_cases e : i / 4 = q
  · subst e
    rw [if_pos rfl, show min (i + 1) (4 * (i / 4) + 4) = i + 1 by omega, List.take_succ_eq_append_getElem (by omega), List.drop_append_of_le_length (by simp; omega), getN_snoc]
  · rw [if_neg e]
    by_cases h3 : i < 4 * q
    · rw [List.drop_of_length_le (by simp; omega), List.drop_of_length_le (by simp; omega)]
    · rw [show min (i + 1) (4 * q + 4) = min i (4 * q + 4) by omega]
theorem part_small (b : List UInt8) (i : Nat) (hi : i < 64) (hb : b.length = 64) : getN ((b.take i).drop (4 * (i / 4))) < 16777216 := by
  have h1 := getN_lt ((b.take i).drop (4 * (i / 4)))
  have h2 : ((b.take i).drop (4 * (i / 4))).length ≤ 3 := by simp; omega
  have h3 : (256 : Nat) ^ ((b.take i).drop (4 * (i / 4))).length ≤ 256 ^ 3 := Nat.pow_le_pow_right (by decide) h2
  have e : (256 : Nat) ^ 3 = 16777216 := by decide
  omega
theorem or_step (G y : Nat) (hG : G < 16777216) (hy : y < 256) : bits .or .u32 ((G : Int) * 256) ((y : Int) % 4294967296) = ((G * 256 + y : Nat) : Int) := by
  have e1 : ((y : Int) % 4294967296) = (y : Int) := by omega
  have e2 : ((G : Int) * 256) = ((G * 256 : Nat) : Int) := by omega
  rw [e1, e2, u32_or_nat (G * 256) y (by omega) (by omega)]
  rw [nat_join 8 (G * 256) y (by omega) (by omega)]
theorem part_end (b : List UInt8) (hb : b.length = 64) : cellsU (partW b 64) = cells32 (first b 16 ++ List.replicate 48 0) := by
  apply List.ext_getElem (by simp [cellsU, partW, cells32, first])
  intro q h1 h2
  have hq : q < 64 := by simpa [cellsU, partW] using h1
  simp only [cellsU, partW, cells32, List.getElem_map, List.getElem_range]
  congr 2
  by_cases h : q < 16
  · rw [List.getElem_append_left (by rw [first_length]; exact h)]
    simp only [first, List.getElem_map, List.getElem_range, word]
    have h3 : getN ((b.take (4 * q + 4)).drop (4 * q)) < 4294967296 := by
      have h4 := getN_lt ((b.take (4 * q + 4)).drop (4 * q))
      rw [show ((b.take (4 * q + 4)).drop (4 * q)).length = 4 by simp; omega] at h4
      exact h4
    rw [show min 64 (4 * q + 4) = 4 * q + 4 by omega]
    show _ = _ % 4294967296
    rw [Nat.mod_eq_of_lt h3]
  · rw [List.getElem_append_right (by rw [first_length]; omega), List.getElem_replicate, show min 64 (4 * q + 4) = 64 by omega, List.drop_of_length_le (by simp; omega)]
    rfl
/-- the words so far, noughts behind them -/
def extZ (l : List UInt32) (i : Nat) : List UInt32 := extW (i - 16) l ++ List.replicate (64 - i) 0
theorem extZ_next (l : List UInt32) (i : Nat) (v : UInt32) (hl : l.length = 16) (h1 : 16 ≤ i) (h2 : i < 64) (hv : v = nextW (extW (i - 16) l)) : (cells32 (extZ l i)).set i (.int .u32 (v.toNat : Int)) = cells32 (extZ l (i + 1)) := by
  subst hv
  unfold extZ
  have e : (extW (i - 16) l).length = i := by rw [extW_length]; omega
  rw [show i + 1 - 16 = (i - 16) + 1 by omega, show 64 - i = (64 - (i + 1)) + 1 by omega, List.replicate_succ, cells32_append, List.set_append_right _ _ (by rw [cells32_length]; omega), cells32_length, e, Nat.sub_self]
  simp [extW, cells32]
theorem extZ_at (l : List UInt32) (i j : Nat) (hl : l.length = 16) (h1 : 16 ≤ i) (hj : j < i) : (cells32 (extZ l i))[j]? = some (.int .u32 (((extW (i - 16) l).getD j 0).toNat : Int)) := by
  have e : (extW (i - 16) l).length = i := by rw [extW_length]; omega
  unfold extZ
  rw [cells32_append, List.getElem?_append_left (by rw [cells32_length]; omega), cells32_at _ j (by omega)]
  simp [List.getD, List.getElem?_eq_getElem (show j < (extW (i - 16) l).length by omega)]
theorem extZ_length (l : List UInt32) (i : Nat) (hl : l.length = 16) (h1 : 16 ≤ i) (h2 : i ≤ 64) : (cells32 (extZ l i)).length = 64 := by
  rw [cells32_length]; unfold extZ; rw [List.length_append, extW_length, List.length_replicate]; omega

theorem sum4 (a b c d : UInt32) : ((d.toNat : Int) + (c.toNat : Int) + (b.toNat : Int) + (a.toNat : Int)) % 4294967296 = ((a + b + c + d).toNat : Int) := by
  simp only [UInt32.toNat_add]; omega

def zeroW : List Value := cells32 (List.replicate 64 0)
theorem zeroW_part (b : List UInt8) : zeroW = cellsU (partW b 0) := by
  unfold zeroW partW cellsU
  simp only [Nat.zero_min, List.take_zero, List.drop_nil]
  rfl
theorem ty64 : Ty Try.prog 87 zeroW := ⟨by kernel_rfl⟩
theorem rw64 : Rw Try.prog 87 (.array 64 70) 64 := ⟨by kernel_rfl, rfl, by kernel_rfl⟩
theorem rwBlock : Rw Try.prog 74 (.array 64 5) 64 := ⟨by kernel_rfl, rfl, by kernel_rfl⟩

set_option maxRecDepth 100000 in
set_option maxHeartbeats 4000000 in
theorem schedule_any (b : List UInt8) (w : World) (hb : b.length = 64) :
    Calls Try.prog 55 #[.agg (cells8 b).toArray] w fun e w' => e = .returned (.agg (cells32 (wordsL b)).toArray) ∧ Below w.heap.size w w' := by
  have HL := Lib.hid hb
  clear hb
  go_enter Try.func55, Try.ntmps55
  go_wp2_with (with_reducible refine wpList_box (o := ⟨some 1, _, _, _, _, _⟩) rfl (.tmp 0) rfl rfl ?_)
  intro w1 hk1 hb1 hs1
  have HK1 := Lib.hid hk1
  go_wp2_with (with_reducible refine wpList_alloc (o := ⟨some 2, _, _, _, _, _⟩) ty64 rfl rfl ?_)
  intro w2 hk2 hb2 hs2
  have HK2 := Lib.hid hk2
  go_wp2_with (with_reducible refine wpList_alloc (o := ⟨some 3, _, _, _, _, _⟩) ty64 rfl rfl ?_)
  intro w3 hk3 hb3 hs3
  have HK3 := Lib.hid hk3
  have HB1 := Lib.hid ((HK1.out.below hb2 (by omega)).below hb3 (by omega))
  have HB2 := Lib.hid (HK2.out.below hb3 (by omega))
  have HB3 : Hid (Blk w3 (w.heap.size + 1 + 1) 87 (cellsU (partW b 0))) := by
    show Blk _ _ _ _
    rw [← zeroW_part]; exact hk3
  have hB3 : Below w.heap.size w w3 := (hb1.trans (hb2.mono (by omega))).trans (hb3.mono (by omega))
  clear HK1 HK2 HK3 hk1 hk2 hk3 hb1 hb2 hb3 hs1 hs2 hs3
  go_wp2
  go_loopw [6] (fun v wr => ∃ i : Nat, i ≤ 64 ∧ v = .int .i64 i ∧ Hid (Blk wr (w.heap.size + 1 + 1) 87 (cellsU (partW b i))) ∧ Only (w.heap.size + 1 + 1) w3 wr) (fun v _ => 64 - (intOf v).toNat)
  case atStart => exact ⟨0, Nat.zero_le _, rfl, HB3, Only.refl _ _⟩
  case round =>
    clear HB3
    obtain ⟨i, hi, rfl, HB, ho⟩ := hrel
    by_cases hlt : i < 64
    · have hbi : i < b.length := by rw [HL.out]; exact hlt
      have hcb := (HB1.out.only ho (by omega)).cell (i := i) (by rw [cells8_length]; exact hbi)
      have hcb2 : wr.cell? ⟨w.heap.size, i, none⟩ = some (.int .u8 (b[i].toNat : Int)) := by
        rw [hcb]; simp [cells8]
      have hq64 : i / 4 < 64 := by omega
      have hmin : min i (4 * (i / 4) + 4) = i := by omega
      have hcw : wr.cell? ⟨w.heap.size + 1 + 1, i / 4, none⟩ = some (.int .u32 ((getN ((b.take i).drop (4 * (i / 4))) : Nat) : Int)) := by
        rw [HB.out.cell? (i / 4)]
        have := partW_at b i (i / 4) hq64
        rw [hmin] at this
        exact cellsU_some this
      have HN := Lib.hid (partW_next b i hlt HL.out)
      have hG := part_small b i hlt HL.out
      generalize getN ((b.take i).drop (4 * (i / 4))) = G at *
      generalize b[i] = y at *
      have hfw := HB.out.frozen (i / 4)
      obtain ⟨q, hqe⟩ : ∃ q, q = i / 4 := ⟨_, rfl⟩
      rw [← hqe] at hcw hfw HN hq64
      have hqi : ((i : Int) / 4) = (q : Int) := by omega
      have hqq : (q : Int) < 64 := by omega
      have hqw : IntKind.i64.wrap (q : Int) = (q : Int) := by rw [IntKind.wrap_i64]; omega
      clear hqe hmin hcb
      go_wp2_with fail
      go_still_tail 12, (by kernel_rfl)
      change wpList _ _ _ _ _ wr.drew
      go_wp2
      have HV := Lib.hid (or_step G y.toNat hG y.toNat_lt)
      refine ⟨⟨i + 1, by omega, by go_num, ?_, (ho.trans (Only.setCell wr ⟨w.heap.size + 1 + 1, q, none⟩ _)).drew⟩, by simp [intOf]; omega⟩
      show Blk _ _ _ _
      rw [HV.out, HN.out]
      have h3 := (HB.out.set q (.int .u32 ((G * 256 + y.toNat : Nat) : Int))).drew
      have e : (cellsU (partW b i)).set q (.int .u32 ((G * 256 + y.toNat : Nat) : Int)) = cellsU ((partW b i).set q (G * 256 + y.toNat)) := by
        simp only [cellsU, List.map_set]
      rw [e] at h3
      exact h3
    · have HI := Lib.hid (show i = 64 by omega)
      have HBw : Hid (Blk wr (w.heap.size + 1 + 1) 87 (cells32 (extZ (first b 16) 16))) := by
        have h1 := HB.out
        rw [HI.out, part_end b HL.out] at h1
        exact h1
      have HWL : Kp (cells32 (extZ (first b 16) 64) = cells32 (wordsL b)) := ⟨by unfold extZ wordsL; simp⟩
      have HF := Lib.hid (first_length b 16)
      generalize first b 16 = l0 at *
      have hlt3 : w.heap.size + 1 < w3.heap.size := HB2.out.lt
      obtain ⟨wx, rfl⟩ : ∃ x, x = wr := ⟨wr, rfl⟩
      clear HB
      go_wp2
      go_loopw [5] (fun v wr => ∃ i : Nat, 16 ≤ i ∧ i ≤ 64 ∧ v = .int .i64 i ∧ Hid (Blk wr (w.heap.size + 1 + 1) 87 (cells32 (extZ l0 i))) ∧ Only (w.heap.size + 1 + 1) w3 wr) (fun v _ => 64 - (intOf v).toNat)
      case atStart => exact ⟨16, Nat.le_refl _, by omega, rfl, HBw, ho⟩
      case round =>
        clear HBw ho hlt hi
        obtain ⟨k, hk1, hk2, rfl, HB, ho⟩ := hrel
        by_cases hlt : k < 64
        · have hat : ∀ j, j < k → wr.cell? ⟨w.heap.size + 1 + 1, j, none⟩ = some (.int .u32 (((extW (k - 16) l0).getD j 0).toNat : Int)) := fun j hj => by
            rw [HB.out.cell? j]; exact extZ_at l0 k j HF.out hk1 hj
          have hlen : (extW (k - 16) l0).length = k := by rw [extW_length, HF.out]; omega
          have hnw : nextW (extW (k - 16) l0) = (extW (k - 16) l0).getD (k - 16) 0 + sig0 ((extW (k - 16) l0).getD (k - 15) 0) + (extW (k - 16) l0).getD (k - 7) 0 + sig1 ((extW (k - 16) l0).getD (k - 2) 0) := by unfold nextW; rw [hlen]
          obtain ⟨k16, e16⟩ : ∃ q : Nat, q = k - 16 := ⟨_, rfl⟩
          obtain ⟨k15, e15⟩ : ∃ q : Nat, q = k - 15 := ⟨_, rfl⟩
          obtain ⟨k7, e7⟩ : ∃ q : Nat, q = k - 7 := ⟨_, rfl⟩
          obtain ⟨k2, e2⟩ : ∃ q : Nat, q = k - 2 := ⟨_, rfl⟩
          have w16 : IntKind.i64.wrap ((k : Int) - 16) = (k16 : Int) := by rw [IntKind.wrap_i64]; omega
          have w15 : IntKind.i64.wrap ((k : Int) - 15) = (k15 : Int) := by rw [IntKind.wrap_i64]; omega
          have w7 : IntKind.i64.wrap ((k : Int) - 7) = (k7 : Int) := by rw [IntKind.wrap_i64]; omega
          have w2' : IntKind.i64.wrap ((k : Int) - 2) = (k2 : Int) := by rw [IntKind.wrap_i64]; omega
          have b16 : (k16 : Int) < 64 := by omega
          have b15 : (k15 : Int) < 64 := by omega
          have b7 : (k7 : Int) < 64 := by omega
          have b2 : (k2 : Int) < 64 := by omega
          have c16 := hat k16 (by omega)
          have c15 := hat k15 (by omega)
          have c7 := hat k7 (by omega)
          have c2 := hat k2 (by omega)
          have HS := fun v hv => extZ_next l0 k v HF.out hk1 hlt hv
          have hlz := extZ_length l0 k HF.out hk1 hk2
          have hcw := HB.out.cell (i := k) (by omega)
          have hfw := HB.out.frozen k
          generalize (cells32 (extZ l0 k))[k]'(by omega) = old at hcw
          have HS2 := Lib.hid HS
          have HNW : Hid (nextW (extW (k - 16) l0) = (extW (k - 16) l0).getD k16 0 + sig0 ((extW (k - 16) l0).getD k15 0) + (extW (k - 16) l0).getD k7 0 + sig1 ((extW (k - 16) l0).getD k2 0)) := by show _ = _; rw [e16, e15, e7, e2]; exact hnw
          clear e16 e15 e7 e2 hnw hat hlen HS hlz
          generalize (extW (k - 16) l0).getD k16 0 = x16 at *
          generalize (extW (k - 16) l0).getD k15 0 = x15 at *
          generalize (extW (k - 16) l0).getD k7 0 = x7 at *
          generalize (extW (k - 16) l0).getD k2 0 = x2 at *
          go_wp2_with fail
          refine wp_region_still_tail 22 (by kernel_rfl) (by kernel_rfl) ?_
          simp only [List.take_succ_cons, List.take_zero, List.drop_succ_cons, List.drop_zero]
          repeat (first | still_step | still_call (sig1_any _ _) | still_call (sig0_any _ _))
          try refine wpStill_nil ?_
          change wpList _ _ _ _ _ wr.drew
          go_wp2
          have HV := Lib.hid (sum4 x16 (sig0 x15) x7 (sig1 x2))
          refine ⟨⟨k + 1, by omega, by omega, by go_num, ?_, (ho.trans (Only.setCell wr ⟨w.heap.size + 1 + 1, k, none⟩ _)).drew⟩, by simp [intOf]; omega⟩
          show Blk _ _ _ _
          rw [HV.out, ← HNW.out]
          have h3 := (HB.out.set k (.int .u32 ((nextW (extW (k - 16) l0)).toNat : Int))).drew
          rw [HS2.out _ rfl] at h3
          exact h3
        · have HK := Lib.hid (show k = 64 by omega)
          have HB8 : Kp (Blk wr (w.heap.size + 1 + 1) 87 (cells32 (wordsL b))) := ⟨by
            have h1 := HB.out
            rw [HK.out, HWL.out] at h1
            exact h1⟩
          have HLen : Kp ((cells32 (wordsL b)).length = 64) := ⟨by rw [cells32_length, wordsL_length]⟩
          have HB2r := Lib.hid (HB2.out.only ho (by omega))
          have HZ : Kp (zeroW.length = 64) := ⟨rfl⟩
          clear HB HWL
          go_wp2_with (first
            | (with_reducible refine wpList_loadAll (o := ⟨some 50, _, _, _, _, _⟩) rw64 rfl (.tmp 3) rfl rfl HB8.out HLen.out ?_)
            | (with_reducible refine wpList_storeAll (o := ⟨none, _, _, _, _, _⟩) (vs := cells32 (wordsL b)) rw64 rfl (.tmp 2) (.tmp 50) rfl rfl HB2r.out HZ.out HLen.out (cells32_one _) rfl ?_))
          intro w13 hk14 ho13
          have HK14 : Kp _ := ⟨hk14⟩
          clear hk14
          go_wp2
          exact ret_arr rfl rw64 rfl HK14.out HLen.out rfl ⟨rfl, (hB3.trans (ho.below (by omega))).trans (ho13.below (by omega))⟩
end Go.Proofs.Ytjllfaeamjadcaa
