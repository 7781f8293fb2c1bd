/- The contract of package aes's expand.
   The contract of package aes's encipher.
   The contracts of package aes's New. -/
import Derived.Test.YtckmobpjdpjocaaDoorG06
import Derived.Test.YtckmobpjdpjocaaDoorG02
namespace Go.Proofs.YtckmobpjdpjocaaDoor
open Go.RowKit

def zero44 : List Value := List.replicate 44 (.int .u32 0)
theorem tyKeys : Ty Tryd.prog 79 zero44 := ⟨by kernel_rfl⟩
theorem rwKeys : Rw Tryd.prog 79 (.array 11 78) 44 := ⟨by kernel_rfl, rfl, by kernel_rfl⟩
theorem keys_built (g : Nat → UInt32) : Tryd.prog.built 79 [(0, .agg (cells32 ((List.range 4).map g)).toArray)] = some (cells32 ((List.range 44).map fun j => if j < 4 then g j else 0)).toArray := by kernel_rfl
theorem keys_start (bx key : List UInt8) : ((List.range 44).map fun j => if j < 4 then wd key j else 0) = partW (Wk bx key) (fun _ => 0) 44 4 := by
  unfold partW
  refine List.map_congr_left fun j _ => ?_
  by_cases h : j < 4
  · rw [if_pos h, if_pos h, Wk_low bx key j h]
  · rw [if_neg h, if_neg h]
theorem part_words (bx key : List UInt8) (r k : Nat) (hr : r < 11) (hk : 4 * r + 4 ≤ k) : ((cells32 (partW (Wk bx key) (fun _ => 0) 44 k)).drop (r * 4)).take 4 = cells32 (wordsL (kch bx key r)) := by
  refine List.ext_getElem (by simp [cells32, wordsL, partW]; omega) fun i h1 h2 => ?_
  have hi : i < 4 := by simpa [cells32, wordsL] using h2
  have e1 := wordsL_at (kch bx key r) i hi
  rw [wd_kch bx key r i hi] at e1
  rw [List.getElem?_eq_getElem h2] at e1
  rw [Option.some.inj e1, List.getElem_take, List.getElem_drop]
  simp only [cells32, partW, List.getElem_map, List.getElem_range]
  rw [if_pos (by omega), show r * 4 + i = 4 * r + i by omega]
/-- the running word of a round -/
def nw (bx key : List UInt8) (i j : Nat) : UInt32 := if j = 0 then subN bx (rl (Wk bx key (4 * i + 3))) ^^^ w4 (rcon i) 0 0 0 else Wk bx key (4 * (i + 1) + j - 1)
theorem nw_next (bx key : List UInt8) (i j : Nat) (hi : i < 10) (hj : j < 4) : nw bx key i j ^^^ Wk bx key (4 * i + j) = Wk bx key (4 * (i + 1) + j) := by
  rw [show 4 * (i + 1) + j = (4 * i + j) + 4 by omega, Wk_step bx key (4 * i + j) (by omega)]
  unfold nw kg
  by_cases h : j = 0
  · subst h
    rw [if_pos rfl, if_pos (by omega), show (4 * i + 0) / 4 = i by omega, Nat.add_zero]
  · rw [if_neg h, if_neg (by omega), show 4 * (i + 1) + j - 1 = 4 * i + j + 3 by omega]
theorem nw_succ (bx key : List UInt8) (i j : Nat) : nw bx key i (j + 1) = Wk bx key (4 * (i + 1) + j) := by
  unfold nw
  rw [if_neg (by omega)]; rfl
theorem rc_val (x : UInt32) (c : UInt8) : bits .xor .u32 (x.toNat : Int) ((c.toNat : Int) * 16777216) = ((x ^^^ w4 c 0 0 0).toNat : Int) := by
  have e1 : (c.toNat : Int) * 16777216 = ((w4 c 0 0 0).toNat : Int) := by rw [w4_nat]; simp
  rw [e1, u32_xor']
theorem rl_turn (x : UInt32) (w : World) : Calls Tryd.prog 49 #[.int .u32 x.toNat, .int .i64 8] w fun e w' => e = .returned (.int .u32 (rl x).toNat) ∧ ∃ q, w' = w.drewN q := by
  have h := turn_8 (by4 x 0) (by4 x 1) (by4 x 2) (by4 x 3) w
  rw [← w4_of] at h
  exact h
set_option maxRecDepth 100000 in
set_option maxHeartbeats 4000000 in
theorem expand_any (key : List UInt8) (gx : Nat) (t : TypeId) (bx : List UInt8) (w : World) (hb : Blk w gx t (cells8 bx)) (hl : bx.length = 256) :
    Calls Tryd.prog 37 #[.agg (cells32 (wordsL key)).toArray, .pointer (some ⟨gx, 0, none⟩)] w fun e w' => e = .returned (.agg (cells32 ((List.range 44).map (Wk bx key))).toArray) ∧ Below w.heap.size w w' := by
  have HX : Kp _ := ⟨hb⟩
  have HLx : Kp (bx.length = 256) := ⟨hl⟩
  have hgx := hb.lt
  clear hb hl
  go_enter Tryd.func37, Tryd.ntmps37
  go_wp2_with (with_reducible refine wpList_box (o := ⟨some 2, _, _, _, _, _⟩) rfl (.tmp 0) rfl rfl ?_)
  intro w1 hk1 hb1 hs1
  have HK1 : Kp _ := ⟨hk1⟩
  clear hk1 hs1
  go_wp2_with (with_reducible refine wpList_alloc (o := ⟨some 4, _, _, _, _, _⟩) tyKeys rfl rfl ?_)
  intro w2 hk2 hb2 hs2
  have HR2 : Kp _ := ⟨hk2⟩
  have HK12 : Kp _ := ⟨HK1.out.below hb2 HK1.out.lt⟩
  have HLw : Kp ((cells32 (wordsL key)).length = 4) := ⟨by rw [cells32_length, wordsL_length]⟩
  have hB2 : Below w.heap.size w w2 := hb1.trans (hb2.mono hb1.size)
  have n1 : w.heap.size < w1.heap.size := HK1.out.lt
  have HBu : Kp (Tryd.prog.built 79 [(0, .agg (cells32 (wordsL key)).toArray)] = some (cells32 (partW (Wk bx key) (fun _ => 0) 44 4)).toArray) := ⟨by rw [← keys_start]; exact keys_built (wd key)⟩
  clear hk2 hs2 hb1 hb2 HK1
  go_wp2_with (first
    | (with_reducible refine wpList_loadAll (o := ⟨some 11, _, _, _, _, _⟩) rwState rfl (.tmp 2) rfl rfl HK12.out HLw.out ?_)
    | (refine wpList_build1 (o := ⟨some 12, _, _, _, _, _⟩) rfl 0 (.tmp 11) rfl rfl HBu.out ?_)
    | (with_reducible refine wpList_alloc (o := ⟨some 5, _, _, _, _, _⟩) tyKeys rfl rfl ?_))
  intro w3 hk3 hb3 hs3
  have HK3 : Kp _ := ⟨hk3⟩
  have HR3 : Kp _ := ⟨HR2.out.below hb3 HR2.out.lt⟩
  have HZ : Kp (zero44.length = 44) := ⟨by simp [zero44]⟩
  have HL4 : Kp ((cells32 (partW (Wk bx key) (fun _ => 0) 44 4)).length = 44) := ⟨by rw [cells32_length, partW_length]⟩
  have n2 : w1.heap.size < w2.heap.size := HR2.out.lt
  have hB3 : Below w.heap.size w w3 := hB2.trans (hb3.mono hB2.size)
  obtain ⟨g1, hg1⟩ : ∃ g, g = w1.heap.size := ⟨_, rfl⟩
  obtain ⟨g2, hg2⟩ : ∃ g, g = w2.heap.size := ⟨_, rfl⟩
  rw [← hg1] at HR3 n1 n2 ⊢
  rw [← hg2] at HK3 n2 ⊢
  clear hk3 hs3 hb3 HR2 HK12 hB2 hg1 hg2 HLw HBu
  go_wp2_with (with_reducible refine wpList_storeAll (o := ⟨none, _, _, _, _, _⟩) (vs := cells32 (partW (Wk bx key) (fun _ => 0) 44 4)) rwKeys rfl (.tmp 5) (.tmp 12) rfl rfl HK3.out HZ.out HL4.out (cells32_one _) rfl ?_)
  intro w4' hk4 ho4
  have HK4 : Kp _ := ⟨hk4⟩
  have HR4 : Kp _ := ⟨HR3.out.only ho4 (by omega)⟩
  have hB4 : Below w.heap.size w w4' := hB3.trans (ho4.below (by omega))
  clear hk4 ho4 HK3 HR3 hB3 HL4
  go_wp2
  go_loopg [6, 13] 10 (fun gk vc vi wr => ∃ i : Nat, i + gk = 10 ∧ vi = .int .i64 i ∧ vc = .int .u8 (rcon i).toNat ∧ Kp (Blk wr g2 79 (cells32 (partW (Wk bx key) (fun _ => 0) 44 (4 * (i + 1))))) ∧ Kp (Blk wr g1 79 zero44) ∧ Below w.heap.size w wr)
  case atStart => exact ⟨0, by omega, rfl, rfl, HK4, HR4, hB4⟩
  case round =>
    clear HK4 HR4 hB4
    obtain ⟨i, hi, rfl, rfl, HK, HR, hB⟩ := hrel
    cases gk with
    | zero =>
      obtain rfl : i = 10 := by omega
      have HD : Kp (Blk wr g2 79 (cells32 ((List.range 44).map (Wk bx key)))) := ⟨by
        have h := HK.out
        rw [show 4 * (10 + 1) = 44 from rfl, partW_done] at h
        exact h⟩
      have HLen : Kp ((cells32 ((List.range 44).map (Wk bx key))).length = 44) := ⟨by rw [cells32_length]; simp⟩
      generalize hL : (List.range 44).map (Wk bx key) = L at *
      have HL : Kp _ := ⟨hL⟩
      clear HK hL
      go_wp2_with (first
        | (with_reducible refine wpList_loadAll (o := ⟨some 46, _, _, _, _, _⟩) rwKeys rfl (.tmp 5) rfl rfl HD.out HLen.out ?_)
        | (with_reducible refine wpList_storeAll (o := ⟨none, _, _, _, _, _⟩) (vs := cells32 L) rwKeys rfl (.tmp 4) (.tmp 46) rfl rfl HR.out HZ.out HLen.out (cells32_one _) rfl ?_))
      intro w5 hk5 ho5
      have HK5 : Kp _ := ⟨hk5⟩
      clear hk5
      go_wp2
      exact ret_arr rfl rwKeys rfl HK5.out HLen.out rfl ⟨by first | rfl | rw [HL.out], hB.trans (ho5.below (by omega))⟩
    | succ g3 =>
      have hiI : (i : Int) < 10 := by omega
      have hi11 : (i : Int) < 11 := by omega
      have hi10 : Kp (i < 10) := ⟨by omega⟩
      have HP : Kp _ := ⟨part_words bx key i (4 * (i + 1)) (by omega) (by omega)⟩
      have HL4 : Kp (i * 4 + 4 ≤ (cells32 (partW (Wk bx key) (fun _ => 0) 44 (4 * (i + 1)))).length) := ⟨by rw [cells32_length, partW_length]; omega⟩
      have HLk : Kp ((cells32 (wordsL (kch bx key i))).length = 4) := ⟨by rw [cells32_length, wordsL_length]⟩
      have HZ4 : Kp (zero4.length = 4) := ⟨rfl⟩
      obtain ⟨wa, rfl⟩ : ∃ x, x = wr := ⟨wr, rfl⟩
      go_wp2_with (first
        | (with_reducible refine wpList_loadv (o := ⟨some 18, _, _, _, _, _⟩) rwState rfl (.tmp 17) rfl rfl HK.out HL4.out HP.out ?_)
        | (with_reducible refine wpList_alloc (o := ⟨some 8, _, _, _, _, _⟩) tyState rfl rfl ?_))
      intro wb hkb hbb hsb
      have HKb : Kp _ := ⟨hkb⟩
      clear hkb hsb
      have HK2 : Kp _ := ⟨HK.out.below hbb HK.out.lt⟩
      have HR2 : Kp _ := ⟨HR.out.below hbb HR.out.lt⟩
      have hlt2 : g2 < wa.heap.size := HK.out.lt
      have hlt1 : g1 < wa.heap.size := HR.out.lt
      have hgs : w.heap.size ≤ wa.heap.size := hB.size
      have hBb : Below w.heap.size w wb := hB.trans (hbb.mono hgs)
      obtain ⟨g8, hg8⟩ : ∃ g, g = wa.heap.size := ⟨_, rfl⟩
      rw [← hg8] at HKb hlt2 hlt1 hgs ⊢
      clear HK HR hB hbb HL4 HP hg8
      go_wp2_with (refine wpList_storeAll (o := ⟨none, _, _, _, _, _⟩) (vs := cells32 (wordsL (kch bx key i))) rwState rfl (.tmp 8) (.tmp 18) rfl rfl HKb.out HZ4.out HLk.out (cells32_one _) rfl ?_)
      intro wc hkc hoc
      have HKc : Kp _ := ⟨hkc⟩
      have HK3 : Kp _ := ⟨HK2.out.only hoc (by omega)⟩
      have HR3 : Kp _ := ⟨HR2.out.only hoc (by omega)⟩
      have hBc : Below w.heap.size w wc := hBb.trans (hoc.below hgs)
      have c3 := (HKc.out.cell? 3).trans (wordsL_at (kch bx key i) 3 (by omega))
      rw [wd_kch bx key i 3 (by omega)] at c3
      have HXc : Kp _ := ⟨HX.out.below hBc hgx⟩
      have hrc := rc_val (subN bx (rl (Wk bx key (4 * i + 3)))) (rcon i)
      rw [show subN bx (rl (Wk bx key (4 * i + 3))) ^^^ w4 (rcon i) 0 0 0 = nw bx key i 0 from rfl] at hrc
      have hrc8 := (rcon i).toNat_lt
      clear hkc hoc HKb HK2 HR2 hBb
      generalize Wk bx key (4 * i + 3) = x3 at *
      go_wp2_with fail
      refine (rl_turn x3 _).mono ?_
      rintro e w' ⟨rfl, q1, rfl⟩
      go_wp2_with fail
      refine (sub_any (rl x3) gx t bx _ (HXc.out.drewN q1) HLx.out).mono ?_
      rintro e w' ⟨rfl, rfl⟩
      go_wp2_with fail
      have HK4 : Kp (Blk (wc.drewN (q1 + 1)) g2 79 (cells32 (partW (Wk bx key) (fun _ => 0) 44 (4 * (i + 1) + 0)))) := ⟨HK3.out.drewN _⟩
      have HR4 : Kp _ := ⟨HR3.out.drewN (q1 + 1)⟩
      have HKc4 : Kp _ := ⟨HKc.out.drewN (q1 + 1)⟩
      have hB4 : Below w.heap.size w (wc.drewN (q1 + 1)) := below_drewN' hBc _
      generalize wc.drewN (q1 + 1) = wd0 at *
      clear hrc c3 HXc HK3 HR3 HKc hBc
      go_loopg [9, 28] 4 (fun g vw vj wx => ∃ j : Nat, j + g = 4 ∧ vj = .int .i64 j ∧ vw = .int .u32 (nw bx key i j).toNat ∧ Kp (Blk wx g2 79 (cells32 (partW (Wk bx key) (fun _ => 0) 44 (4 * (i + 1) + j)))) ∧ Kp (Blk wx g1 79 zero44) ∧ Kp (Blk wx g8 78 (cells32 (wordsL (kch bx key i)))) ∧ Below w.heap.size w wx)
      case atStart => exact ⟨0, by omega, rfl, rfl, HK4, HR4, HKc4, hB4⟩
      case round =>
        clear HK4 HR4 HKc4 hB4
        obtain ⟨j, hj, rfl, rfl, HK, HR, HS, hB⟩ := hrel
        cases gk with
        | zero =>
          obtain rfl : j = 4 := by omega
          go_wp2_with fail
          refine (double_any (rcon i) _).mono ?_
          rintro e w' ⟨rfl, rfl⟩
          rw [show xt (rcon i) = rcon (i + 1) from rfl]
          go_wp2
          go_roundg g3
          case rel => exact ⟨i + 1, by omega, by go_num, rfl, HK, HR, hB⟩
          case measure => omega
        | succ g4 =>
          have hjI : (j : Int) < 4 := by omega
          have cs := (HS.out.cell? j).trans (wordsL_at (kch bx key i) j (by omega))
          rw [wd_kch bx key i j (by omega)] at cs
          have hv : bits .xor .u32 ((nw bx key i j).toNat : Int) ((Wk bx key (4 * i + j)).toNat : Int) = ((nw bx key i (j + 1)).toNat : Int) := by rw [u32_xor', nw_next bx key i j hi10.out (by omega), nw_succ]
          have HSet : Kp _ := ⟨partW_set (Wk bx key) (fun _ => 0) 44 (4 * (i + 1) + j)⟩
          have hco := (HK.out.cell? (4 * (i + 1) + j)).trans (partW_at (Wk bx key) (fun _ => 0) 44 (4 * (i + 1) + j) (by have := hi10.out; omega))
          have hfo := HK.out.frozen (4 * (i + 1) + j)
          rw [← nw_succ] at HSet
          have HO : Kp ((i + 1) * 4 + j = 4 * (i + 1) + j) := ⟨by omega⟩
          rw [← HO.out] at hco hfo
          obtain ⟨y, hy⟩ : ∃ y, nw bx key i (j + 1) = y := ⟨_, rfl⟩
          have HY : Kp _ := ⟨hy⟩
          rw [hy] at hv HSet
          clear hy
          go_wp2
          go_roundg g4
          case rel =>
            refine ⟨j + 1, by omega, by go_num, ?_, ⟨?_⟩, ⟨HR.out.other (by show g1 ≠ g2; omega) _⟩, ⟨HS.out.other (by show g8 ≠ g2; omega) _⟩, hB.setCell (by show w.heap.size ≤ g2; omega) _⟩
            · rw [HY.out]
            · have h3 := HK.out.set (4 * (i + 1) + j) (.int .u32 (y.toNat : Int))
              rw [HSet.out] at h3
              rw [HO.out]
              exact h3
          case measure => omega
end Go.Proofs.YtckmobpjdpjocaaDoor

namespace Go.Proofs.YtckmobpjdpjocaaDoor
open Go.RowKit

theorem keys44 (bx key : List UInt8) : (cells32 ((List.range 44).map (Wk bx key))).length = 44 := by rw [cells32_length]; simp
theorem take_all {l : List Value} {n : Nat} (h : l.length = n) : (l.drop 0).take n = l := by rw [List.drop_zero, List.take_of_length_le (by omega)]
theorem fit_all {l : List Value} {n : Nat} (h : l.length = n) : 0 + n ≤ l.length := by omega
theorem words4 (l : List UInt8) : (cells32 (wordsL l)).length = 4 := by rw [cells32_length, wordsL_length]
theorem rounds_next (bx key inp : List UInt8) (r : Nat) (h : r < 9) : roundsL (keysL bx key) bx inp (r + 1) = addL (mixL (shiftL (roundsL (keysL bx key) bx inp r) bx 16) 16) (kch bx key (r + 1)) 16 := by
  show roundL _ _ _ _ = _
  unfold roundL
  rw [if_pos (by omega), keysL_at bx key _ (by omega)]
theorem rounds_last (bx key inp : List UInt8) : blockL (keysL bx key) bx inp = addL (shiftL (roundsL (keysL bx key) bx inp 9) bx 16) (kch bx key 10) 16 := by
  show roundL _ _ _ (9 + 1) = _
  unfold roundL
  rw [if_neg (by decide), keysL_at bx key _ (by decide)]
theorem rounds_zero (bx key inp : List UInt8) : addL inp (kch bx key 0) 16 = roundsL (keysL bx key) bx inp 0 := by
  show _ = addL inp ((keysL bx key).getD 0 []) 16
  rw [keysL_at bx key 0 (by decide)]
theorem kch_words' (bx key : List UInt8) (r : Nat) (hr : r < 11) : ((cells32 ((List.range 44).map (Wk bx key))).drop (r * 4)).take 4 = cells32 (wordsL (kch bx key r)) := by
  rw [Nat.mul_comm]; exact kch_words bx key r hr
theorem store_all {cs vs : List Value} (h : cs.length = 4) (_h2 : vs.length = 4) : cs.take 0 ++ vs ++ cs.drop (0 + 4) = vs := by rw [List.drop_of_length_le (by omega)]; simp
set_option maxRecDepth 100000 in
set_option maxHeartbeats 4000000 in
theorem encipher_any (inp : List UInt8) (gq gx : Nat) (t t2 : TypeId) (bx key : List UInt8) (w : World) (hk : Blk w gq t2 (cells32 ((List.range 44).map (Wk bx key)))) (hb : Blk w gx t (cells8 bx)) (hl : bx.length = 256) :
    Calls Tryd.prog 39 #[.agg (cells32 (wordsL inp)).toArray, .pointer (some ⟨gq, 0, none⟩), .pointer (some ⟨gx, 0, none⟩)] w fun e w' => e = .returned (.agg (cells32 (wordsL (blockL (keysL bx key) bx inp))).toArray) ∧ Below w.heap.size w w' := by
  have HX : Kp _ := ⟨hb⟩
  have HK : Kp _ := ⟨hk⟩
  have HLx : Kp (bx.length = 256) := ⟨hl⟩
  have HLk : Kp _ := ⟨keys44 bx key⟩
  have hgx := hb.lt
  have hgq := hk.lt
  clear hb hl hk
  go_enter Tryd.func39, Tryd.ntmps39
  go_wp2_with (with_reducible refine wpList_box (o := ⟨some 3, _, _, _, _, _⟩) rfl (.tmp 0) rfl rfl ?_)
  intro w1 hk1 hb1 hs1
  have HK1 : Kp _ := ⟨hk1⟩
  clear hk1 hs1
  go_wp2_with (with_reducible refine wpList_alloc (o := ⟨some 6, _, _, _, _, _⟩) tyState rfl rfl ?_)
  intro w2 hk2 hb2 hs2
  have HR : Kp _ := ⟨hk2⟩
  have HS : Kp _ := ⟨HK1.out.below hb2 HK1.out.lt⟩
  have hB : Below w.heap.size w w2 := hb1.trans (hb2.mono hb1.size)
  have n1 : w.heap.size < w1.heap.size := HK1.out.lt
  replace HK : Kp _ := ⟨HK.out.below hB hgq⟩
  replace HX : Kp _ := ⟨HX.out.below hB hgx⟩
  have HLi : Kp _ := ⟨words4 inp⟩
  have HP0 : Kp _ := ⟨kch_words' bx key 0 (by decide)⟩
  have HF0 : Kp (0 + 4 ≤ (cells32 ((List.range 44).map (Wk bx key))).length) := ⟨by rw [HLk.out]; decide⟩
  obtain ⟨g1, hg1⟩ : ∃ g, g = w1.heap.size := ⟨_, rfl⟩
  rw [← hg1] at HR n1 ⊢
  clear hk2 hs2 hb1 hb2 HK1 hg1
  go_wp2_with fail
  refine wp_region_still_tail 5 (by kernel_rfl) (by kernel_rfl) ?_
  simp only [List.take_succ_cons, List.take_zero, List.drop_succ_cons, List.drop_zero]
  refine wpStill_load (o := ⟨some 8, _, _, _, _, _⟩) rwState rfl (.tmp 3) rfl rfl HS.out.drew (fit_all HLi.out) (take_all HLi.out) ?_
  repeat still_step
  refine wpStill_load (o := ⟨some 12, _, _, _, _, _⟩) rwState rfl (.tmp 11) rfl rfl HK.out.drew HF0.out HP0.out ?_
  try refine wpStill_nil ?_
  change wpList _ _ _ _ _ w2.drew
  replace HR : Kp _ := ⟨HR.out.drew⟩
  replace HS : Kp _ := ⟨HS.out.drew⟩
  replace HK : Kp _ := ⟨HK.out.drew⟩
  replace HX : Kp _ := ⟨HX.out.drew⟩
  replace hB := hB.drew
  generalize w2.drew = wS at *
  go_wp2_with fail
  refine (add_any inp (kch bx key 0) wS).mono ?_
  rintro e w3 ⟨rfl, hb'⟩
  replace HR : Kp _ := ⟨HR.out.below hb' HR.out.lt⟩
  replace HS : Kp _ := ⟨HS.out.below hb' HS.out.lt⟩
  replace HK : Kp _ := ⟨HK.out.below hb' HK.out.lt⟩
  replace HX : Kp _ := ⟨HX.out.below hb' HX.out.lt⟩
  replace hB := hB.trans (hb'.mono hB.size)
  rw [rounds_zero]
  have HL0 : Kp _ := ⟨words4 (roundsL (keysL bx key) bx inp 0)⟩
  clear hb' HP0 HF0
  go_wp2_with (refine wpList_storeAll (o := ⟨none, _, _, _, _, _⟩) (vs := cells32 (wordsL (roundsL (keysL bx key) bx inp 0))) rwState rfl (.tmp 3) (.tmp 13) rfl rfl HS.out HLi.out HL0.out (cells32_one _) rfl ?_)
  intro w4 hk ho
  have HSn : Kp _ := ⟨hk⟩
  replace HR : Kp _ := ⟨HR.out.only ho (by omega)⟩
  replace HK : Kp _ := ⟨HK.out.only ho (by omega)⟩
  replace HX : Kp _ := ⟨HX.out.only ho (by omega)⟩
  replace hB := hB.trans (ho.below (Nat.le_refl _))
  clear hk ho HS HLi HL0
  go_wp2
  go_loopg [14] 9 (fun gk' vi wr => ∃ i : Nat, i + gk' = 9 ∧ vi = .int .i64 i ∧ Kp (Blk wr w.heap.size 78 (cells32 (wordsL (roundsL (keysL bx key) bx inp i)))) ∧ Kp (Blk wr g1 78 zero4) ∧ Kp (Blk wr gq t2 (cells32 ((List.range 44).map (Wk bx key)))) ∧ Kp (Blk wr gx t (cells8 bx)) ∧ Below w.heap.size w wr)
  case atStart => exact ⟨0, by omega, rfl, HSn, HR, HK, HX, hB⟩
  case round =>
    clear HSn HR HK HX hB
    obtain ⟨i, hi, rfl, HS, HR, HK, HX, hB⟩ := hrel
    cases gk with
    | zero =>
      obtain rfl : i = 9 := by omega
      have HBL : Kp _ := ⟨rounds_last bx key inp⟩
      have HP0 : Kp _ := ⟨kch_words' bx key 10 (by decide)⟩
      have HF0 : Kp (10 * 4 + 4 ≤ (cells32 ((List.range 44).map (Wk bx key))).length) := ⟨by rw [HLk.out]; decide⟩
      generalize roundsL (keysL bx key) bx inp 9 = s at *
      have HLi : Kp _ := ⟨words4 s⟩
      obtain ⟨wa, rfl⟩ : ∃ x, x = wr := ⟨wr, rfl⟩
      go_wp2_with fail
      refine wp_region_any (by kernel_rfl) ?_
      change wpAny _ _ _ _ _ _ _ wa.drew
      replace HR : Kp _ := ⟨HR.out.drew⟩
      replace HS : Kp _ := ⟨HS.out.drew⟩
      replace HK : Kp _ := ⟨HK.out.drew⟩
      replace HX : Kp _ := ⟨HX.out.drew⟩
      replace hB := hB.drew
      generalize wa.drew = wS at *
      refine wpAny_take (i := 1) (oi := ⟨some 30, _, _, _, _, _⟩) (v := ?_) rfl (by kernel_rfl) (by kernel_rfl) (by kernel_rfl) (fun _ _ _ h => h) (Or.inl ⟨by rfl, by intro w; go_simp; try rfl⟩) ?_
      try simp only [Act.put, List.setIfInBounds_toArray, List.set_cons_zero, List.set_cons_succ]
      refine wpAny_take (i := 3) (oi := ⟨some 32, _, _, _, _, _⟩) (v := ?_) rfl (by kernel_rfl) (by kernel_rfl) (by kernel_rfl) (fun _ _ _ h => h) (Or.inl ⟨by rfl, by intro w; go_simp; try rfl⟩) ?_
      try simp only [Act.put, List.setIfInBounds_toArray, List.set_cons_zero, List.set_cons_succ]
      refine wpAny_take (i := 4) (oi := ⟨some 33, _, _, _, _, _⟩) (v := ?_) rfl (by kernel_rfl) (by kernel_rfl) (by kernel_rfl) (fun _ _ _ h => h) (Or.inl ⟨by rfl, by intro w; go_simp; try rfl⟩) ?_
      try simp only [Act.put, List.setIfInBounds_toArray, List.set_cons_zero, List.set_cons_succ]
      refine wpAny_take (i := 5) (oi := ⟨some 34, _, _, _, _, _⟩) (v := ?_) rfl (by kernel_rfl) (by kernel_rfl) (by kernel_rfl) (fun _ _ _ h => h) (Or.inl ⟨by rfl, by intro w; go_simp; try rfl⟩) ?_
      try simp only [Act.put, List.setIfInBounds_toArray, List.set_cons_zero, List.set_cons_succ]
      refine wpAny_ready (rs := [0, 6]) (by kernel_rfl) (by simp) ?_
      refine AllReady.cons (o := ⟨some 29, _, _, _, _, _⟩) rfl (fun K hK => ?_) (AllReady.cons (o := ⟨some 35, _, _, _, _, _⟩) rfl (fun K hK => ?_) AllReady.nil)
      · refine step_load rwState rfl (.tmp 3) rfl rfl HS.out (fit_all HLi.out) (take_all HLi.out) ?_
        refine hK _ _ ?_
        clear hK K
        try simp only [Act.put, List.setIfInBounds_toArray, List.set_cons_zero, List.set_cons_succ]
        refine wpAny_ready (rs := [2, 6]) (by kernel_rfl) (by simp) ?_
        refine AllReady.cons (o := ⟨some 31, _, _, _, _, _⟩) rfl (fun K hK => ?_) (AllReady.cons (o := ⟨some 35, _, _, _, _, _⟩) rfl (fun K hK => ?_) AllReady.nil)
        · go_simp
          refine (shift_any s gx t bx wS HX.out HLx.out).mono ?_
          rintro e w61 ⟨rfl, hb'⟩
          refine hK _ _ ?_
          clear hK K
          try simp only [Act.put, List.setIfInBounds_toArray, List.set_cons_zero, List.set_cons_succ]
          replace HR : Kp _ := ⟨HR.out.below hb' HR.out.lt⟩
          replace HS : Kp _ := ⟨HS.out.below hb' HS.out.lt⟩
          replace HK : Kp _ := ⟨HK.out.below hb' HK.out.lt⟩
          replace HX : Kp _ := ⟨HX.out.below hb' HX.out.lt⟩
          replace hB := hB.trans (hb'.mono hB.size)
          clear hb'
          refine wpAny_ready (rs := [6]) (by kernel_rfl) (by simp) ?_
          refine AllReady.cons (o := ⟨some 35, _, _, _, _, _⟩) rfl (fun K hK => ?_) AllReady.nil
          refine step_load rwState rfl (.tmp 34) rfl rfl HK.out HF0.out HP0.out ?_
          refine hK _ _ ?_
          clear hK K
          try simp only [Act.put, List.setIfInBounds_toArray, List.set_cons_zero, List.set_cons_succ]
          refine wpAny_ready (rs := [7]) (by kernel_rfl) (by simp) ?_
          refine AllReady.cons (o := ⟨some 36, _, _, _, _, _⟩) rfl (fun K hK => ?_) AllReady.nil
          go_simp
          refine (add_any (shiftL s bx 16) (kch bx key 10) w61).mono ?_
          rintro e w62 ⟨rfl, hb'⟩
          refine hK _ _ ?_
          clear hK K
          try simp only [Act.put, List.setIfInBounds_toArray, List.set_cons_zero, List.set_cons_succ]
          replace HR : Kp _ := ⟨HR.out.below hb' HR.out.lt⟩
          replace HS : Kp _ := ⟨HS.out.below hb' HS.out.lt⟩
          replace HK : Kp _ := ⟨HK.out.below hb' HK.out.lt⟩
          replace HX : Kp _ := ⟨HX.out.below hb' HX.out.lt⟩
          replace hB := hB.trans (hb'.mono hB.size)
          clear hb'
          refine wpAny_ready (rs := [8]) (by kernel_rfl) (by simp) ?_
          refine AllReady.cons (o := ⟨none, _, _, _, _, _⟩) rfl (fun K hK => ?_) AllReady.nil
          refine step_store rwState rfl (.tmp 6) (.tmp 36) rfl rfl rfl HR.out (words4 _) (fit_all (l := zero4) rfl) (cells32_one _) ?_
          intro w63 hk ho
          refine hK _ _ ?_
          clear hK K
          simp only [Act.put]
          have HKf : Kp (Blk w63 g1 78 (cells32 (wordsL (addL (shiftL s bx 16) (kch bx key 10) 16)))) := ⟨by have h := hk; rw [store_all rfl (words4 _)] at h; exact h⟩
          replace hB := hB.trans (ho.below (by omega))
          clear hk ho
          refine wpAny_done (by kernel_rfl) ?_ _
          rw [← HBL.out] at HKf
          have HLf : Kp _ := ⟨words4 (blockL (keysL bx key) bx inp)⟩
          obtain ⟨L, hL⟩ : ∃ L, L = wordsL (blockL (keysL bx key) bx inp) := ⟨_, rfl⟩
          have HGL : Kp _ := ⟨hL⟩
          rw [← hL] at HKf HLf
          clear hL
          go_wp2
          exact ret_arr rfl rwState rfl HKf.out HLf.out rfl ⟨by rw [HGL.out], hB⟩
        · refine step_load rwState rfl (.tmp 34) rfl rfl HK.out HF0.out HP0.out ?_
          refine hK _ _ ?_
          clear hK K
          try simp only [Act.put, List.setIfInBounds_toArray, List.set_cons_zero, List.set_cons_succ]
          refine wpAny_ready (rs := [2]) (by kernel_rfl) (by simp) ?_
          refine AllReady.cons (o := ⟨some 31, _, _, _, _, _⟩) rfl (fun K hK => ?_) AllReady.nil
          go_simp
          refine (shift_any s gx t bx wS HX.out HLx.out).mono ?_
          rintro e w64 ⟨rfl, hb'⟩
          refine hK _ _ ?_
          clear hK K
          try simp only [Act.put, List.setIfInBounds_toArray, List.set_cons_zero, List.set_cons_succ]
          replace HR : Kp _ := ⟨HR.out.below hb' HR.out.lt⟩
          replace HS : Kp _ := ⟨HS.out.below hb' HS.out.lt⟩
          replace HK : Kp _ := ⟨HK.out.below hb' HK.out.lt⟩
          replace HX : Kp _ := ⟨HX.out.below hb' HX.out.lt⟩
          replace hB := hB.trans (hb'.mono hB.size)
          clear hb'
          refine wpAny_ready (rs := [7]) (by kernel_rfl) (by simp) ?_
          refine AllReady.cons (o := ⟨some 36, _, _, _, _, _⟩) rfl (fun K hK => ?_) AllReady.nil
          go_simp
          refine (add_any (shiftL s bx 16) (kch bx key 10) w64).mono ?_
          rintro e w65 ⟨rfl, hb'⟩
          refine hK _ _ ?_
          clear hK K
          try simp only [Act.put, List.setIfInBounds_toArray, List.set_cons_zero, List.set_cons_succ]
          replace HR : Kp _ := ⟨HR.out.below hb' HR.out.lt⟩
          replace HS : Kp _ := ⟨HS.out.below hb' HS.out.lt⟩
          replace HK : Kp _ := ⟨HK.out.below hb' HK.out.lt⟩
          replace HX : Kp _ := ⟨HX.out.below hb' HX.out.lt⟩
          replace hB := hB.trans (hb'.mono hB.size)
          clear hb'
          refine wpAny_ready (rs := [8]) (by kernel_rfl) (by simp) ?_
          refine AllReady.cons (o := ⟨none, _, _, _, _, _⟩) rfl (fun K hK => ?_) AllReady.nil
          refine step_store rwState rfl (.tmp 6) (.tmp 36) rfl rfl rfl HR.out (words4 _) (fit_all (l := zero4) rfl) (cells32_one _) ?_
          intro w66 hk ho
          refine hK _ _ ?_
          clear hK K
          simp only [Act.put]
          have HKf : Kp (Blk w66 g1 78 (cells32 (wordsL (addL (shiftL s bx 16) (kch bx key 10) 16)))) := ⟨by have h := hk; rw [store_all rfl (words4 _)] at h; exact h⟩
          replace hB := hB.trans (ho.below (by omega))
          clear hk ho
          refine wpAny_done (by kernel_rfl) ?_ _
          rw [← HBL.out] at HKf
          have HLf : Kp _ := ⟨words4 (blockL (keysL bx key) bx inp)⟩
          obtain ⟨L, hL⟩ : ∃ L, L = wordsL (blockL (keysL bx key) bx inp) := ⟨_, rfl⟩
          have HGL : Kp _ := ⟨hL⟩
          rw [← hL] at HKf HLf
          clear hL
          go_wp2
          exact ret_arr rfl rwState rfl HKf.out HLf.out rfl ⟨by rw [HGL.out], hB⟩
      · refine step_load rwState rfl (.tmp 34) rfl rfl HK.out HF0.out HP0.out ?_
        refine hK _ _ ?_
        clear hK K
        try simp only [Act.put, List.setIfInBounds_toArray, List.set_cons_zero, List.set_cons_succ]
        refine wpAny_ready (rs := [0]) (by kernel_rfl) (by simp) ?_
        refine AllReady.cons (o := ⟨some 29, _, _, _, _, _⟩) rfl (fun K hK => ?_) AllReady.nil
        refine step_load rwState rfl (.tmp 3) rfl rfl HS.out (fit_all HLi.out) (take_all HLi.out) ?_
        refine hK _ _ ?_
        clear hK K
        try simp only [Act.put, List.setIfInBounds_toArray, List.set_cons_zero, List.set_cons_succ]
        refine wpAny_ready (rs := [2]) (by kernel_rfl) (by simp) ?_
        refine AllReady.cons (o := ⟨some 31, _, _, _, _, _⟩) rfl (fun K hK => ?_) AllReady.nil
        go_simp
        refine (shift_any s gx t bx wS HX.out HLx.out).mono ?_
        rintro e w67 ⟨rfl, hb'⟩
        refine hK _ _ ?_
        clear hK K
        try simp only [Act.put, List.setIfInBounds_toArray, List.set_cons_zero, List.set_cons_succ]
        replace HR : Kp _ := ⟨HR.out.below hb' HR.out.lt⟩
        replace HS : Kp _ := ⟨HS.out.below hb' HS.out.lt⟩
        replace HK : Kp _ := ⟨HK.out.below hb' HK.out.lt⟩
        replace HX : Kp _ := ⟨HX.out.below hb' HX.out.lt⟩
        replace hB := hB.trans (hb'.mono hB.size)
        clear hb'
        refine wpAny_ready (rs := [7]) (by kernel_rfl) (by simp) ?_
        refine AllReady.cons (o := ⟨some 36, _, _, _, _, _⟩) rfl (fun K hK => ?_) AllReady.nil
        go_simp
        refine (add_any (shiftL s bx 16) (kch bx key 10) w67).mono ?_
        rintro e w68 ⟨rfl, hb'⟩
        refine hK _ _ ?_
        clear hK K
        try simp only [Act.put, List.setIfInBounds_toArray, List.set_cons_zero, List.set_cons_succ]
        replace HR : Kp _ := ⟨HR.out.below hb' HR.out.lt⟩
        replace HS : Kp _ := ⟨HS.out.below hb' HS.out.lt⟩
        replace HK : Kp _ := ⟨HK.out.below hb' HK.out.lt⟩
        replace HX : Kp _ := ⟨HX.out.below hb' HX.out.lt⟩
        replace hB := hB.trans (hb'.mono hB.size)
        clear hb'
        refine wpAny_ready (rs := [8]) (by kernel_rfl) (by simp) ?_
        refine AllReady.cons (o := ⟨none, _, _, _, _, _⟩) rfl (fun K hK => ?_) AllReady.nil
        refine step_store rwState rfl (.tmp 6) (.tmp 36) rfl rfl rfl HR.out (words4 _) (fit_all (l := zero4) rfl) (cells32_one _) ?_
        intro w69 hk ho
        refine hK _ _ ?_
        clear hK K
        simp only [Act.put]
        have HKf : Kp (Blk w69 g1 78 (cells32 (wordsL (addL (shiftL s bx 16) (kch bx key 10) 16)))) := ⟨by have h := hk; rw [store_all rfl (words4 _)] at h; exact h⟩
        replace hB := hB.trans (ho.below (by omega))
        clear hk ho
        refine wpAny_done (by kernel_rfl) ?_ _
        rw [← HBL.out] at HKf
        have HLf : Kp _ := ⟨words4 (blockL (keysL bx key) bx inp)⟩
        obtain ⟨L, hL⟩ : ∃ L, L = wordsL (blockL (keysL bx key) bx inp) := ⟨_, rfl⟩
        have HGL : Kp _ := ⟨hL⟩
        rw [← hL] at HKf HLf
        clear hL
        go_wp2
        exact ret_arr rfl rwState rfl HKf.out HLf.out rfl ⟨by rw [HGL.out], hB⟩
    | succ g2 =>
      have hiI : (i : Int) < 9 := by omega
      have HBL : Kp _ := ⟨rounds_next bx key inp i (by omega)⟩
      obtain ⟨k, hk⟩ : ∃ k, k = i + 1 := ⟨_, rfl⟩
      have hw1 : IntKind.i64.wrap ((i : Int) + 1) = (k : Int) := by rw [IntKind.wrap_i64]; omega
      have hk11 : (k : Int) < 11 := by omega
      rw [← hk] at HBL
      have HP0 : Kp _ := ⟨kch_words' bx key k (by omega)⟩
      have HF0 : Kp (k * 4 + 4 ≤ (cells32 ((List.range 44).map (Wk bx key))).length) := ⟨by rw [HLk.out]; omega⟩
      have HKI : Kp _ := ⟨hk⟩
      clear hk
      generalize roundsL (keysL bx key) bx inp i = s at *
      have HLi : Kp _ := ⟨words4 s⟩
      obtain ⟨wa, rfl⟩ : ∃ x, x = wr := ⟨wr, rfl⟩
      go_wp2_with fail
      refine wp_region_any (by kernel_rfl) ?_
      change wpAny _ _ _ _ _ _ _ wa.drew
      replace HR : Kp _ := ⟨HR.out.drew⟩
      replace HS : Kp _ := ⟨HS.out.drew⟩
      replace HK : Kp _ := ⟨HK.out.drew⟩
      replace HX : Kp _ := ⟨HX.out.drew⟩
      replace hB := hB.drew
      generalize wa.drew = wS at *
      refine wpAny_take (i := 1) (oi := ⟨some 18, _, _, _, _, _⟩) (v := ?_) rfl (by kernel_rfl) (by kernel_rfl) (by kernel_rfl) (fun _ _ _ h => h) (Or.inl ⟨by rfl, by intro w; go_simp; try rfl⟩) ?_
      try simp only [Act.put, List.setIfInBounds_toArray, List.set_cons_zero, List.set_cons_succ]
      refine wpAny_take (i := 4) (oi := ⟨some 21, _, _, _, _, _⟩) (v := ?_) rfl (by kernel_rfl) (by kernel_rfl) (by kernel_rfl) (fun _ _ _ h => h) (Or.inl ⟨by rfl, by intro w; go_simp; try rfl⟩) ?_
      try simp only [Act.put, List.setIfInBounds_toArray, List.set_cons_zero, List.set_cons_succ]
      refine wpAny_take (i := 5) (oi := ⟨some 22, _, _, _, _, _⟩) (v := ?_) rfl (by kernel_rfl) (by kernel_rfl) (by kernel_rfl) (fun _ _ _ h => h) (Or.inl ⟨by rfl, by intro w; go_simp; try rfl⟩) ?_
      try simp only [Act.put, List.setIfInBounds_toArray, List.set_cons_zero, List.set_cons_succ]
      refine wpAny_take (i := 6) (oi := ⟨some 23, _, _, _, _, _⟩) (v := ?_) rfl (by kernel_rfl) (by kernel_rfl) (by kernel_rfl) (fun _ _ _ h => h) (Or.inl ⟨by rfl, by intro w; go_simp; try rfl⟩) ?_
      try simp only [Act.put, List.setIfInBounds_toArray, List.set_cons_zero, List.set_cons_succ]
      refine wpAny_take (i := 7) (oi := ⟨some 24, _, _, _, _, _⟩) (v := ?_) rfl (by kernel_rfl) (by kernel_rfl) (by kernel_rfl) (fun _ _ _ h => h) (Or.inl ⟨by rfl, by intro w; go_simp; try rfl⟩) ?_
      try simp only [Act.put, List.setIfInBounds_toArray, List.set_cons_zero, List.set_cons_succ]
      refine wpAny_take (i := 8) (oi := ⟨some 25, _, _, _, _, _⟩) (v := ?_) rfl (by kernel_rfl) (by kernel_rfl) (by kernel_rfl) (fun _ _ _ h => h) (Or.inl ⟨by rfl, by intro w; go_simp; try rfl⟩) ?_
      try simp only [Act.put, List.setIfInBounds_toArray, List.set_cons_zero, List.set_cons_succ]
      refine wpAny_ready (rs := [0, 9]) (by kernel_rfl) (by simp) ?_
      refine AllReady.cons (o := ⟨some 17, _, _, _, _, _⟩) rfl (fun K hK => ?_) (AllReady.cons (o := ⟨some 26, _, _, _, _, _⟩) rfl (fun K hK => ?_) AllReady.nil)
      · refine step_load rwState rfl (.tmp 3) rfl rfl HS.out (fit_all HLi.out) (take_all HLi.out) ?_
        refine hK _ _ ?_
        clear hK K
        try simp only [Act.put, List.setIfInBounds_toArray, List.set_cons_zero, List.set_cons_succ]
        refine wpAny_ready (rs := [2, 9]) (by kernel_rfl) (by simp) ?_
        refine AllReady.cons (o := ⟨some 19, _, _, _, _, _⟩) rfl (fun K hK => ?_) (AllReady.cons (o := ⟨some 26, _, _, _, _, _⟩) rfl (fun K hK => ?_) AllReady.nil)
        · go_simp
          refine (shift_any s gx t bx wS HX.out HLx.out).mono ?_
          rintro e w61 ⟨rfl, hb'⟩
          refine hK _ _ ?_
          clear hK K
          try simp only [Act.put, List.setIfInBounds_toArray, List.set_cons_zero, List.set_cons_succ]
          replace HR : Kp _ := ⟨HR.out.below hb' HR.out.lt⟩
          replace HS : Kp _ := ⟨HS.out.below hb' HS.out.lt⟩
          replace HK : Kp _ := ⟨HK.out.below hb' HK.out.lt⟩
          replace HX : Kp _ := ⟨HX.out.below hb' HX.out.lt⟩
          replace hB := hB.trans (hb'.mono hB.size)
          clear hb'
          refine wpAny_ready (rs := [3, 9]) (by kernel_rfl) (by simp) ?_
          refine AllReady.cons (o := ⟨some 20, _, _, _, _, _⟩) rfl (fun K hK => ?_) (AllReady.cons (o := ⟨some 26, _, _, _, _, _⟩) rfl (fun K hK => ?_) AllReady.nil)
          · go_simp
            refine (mix_any (shiftL s bx 16) w61).mono ?_
            rintro e w62 ⟨rfl, hb'⟩
            refine hK _ _ ?_
            clear hK K
            try simp only [Act.put, List.setIfInBounds_toArray, List.set_cons_zero, List.set_cons_succ]
            replace HR : Kp _ := ⟨HR.out.below hb' HR.out.lt⟩
            replace HS : Kp _ := ⟨HS.out.below hb' HS.out.lt⟩
            replace HK : Kp _ := ⟨HK.out.below hb' HK.out.lt⟩
            replace HX : Kp _ := ⟨HX.out.below hb' HX.out.lt⟩
            replace hB := hB.trans (hb'.mono hB.size)
            clear hb'
            refine wpAny_ready (rs := [9]) (by kernel_rfl) (by simp) ?_
            refine AllReady.cons (o := ⟨some 26, _, _, _, _, _⟩) rfl (fun K hK => ?_) AllReady.nil
            refine step_load rwState rfl (.tmp 25) rfl rfl HK.out HF0.out HP0.out ?_
            refine hK _ _ ?_
            clear hK K
            try simp only [Act.put, List.setIfInBounds_toArray, List.set_cons_zero, List.set_cons_succ]
            refine wpAny_ready (rs := [10]) (by kernel_rfl) (by simp) ?_
            refine AllReady.cons (o := ⟨some 27, _, _, _, _, _⟩) rfl (fun K hK => ?_) AllReady.nil
            go_simp
            refine (add_any (mixL (shiftL s bx 16) 16) (kch bx key k) w62).mono ?_
            rintro e w63 ⟨rfl, hb'⟩
            refine hK _ _ ?_
            clear hK K
            try simp only [Act.put, List.setIfInBounds_toArray, List.set_cons_zero, List.set_cons_succ]
            replace HR : Kp _ := ⟨HR.out.below hb' HR.out.lt⟩
            replace HS : Kp _ := ⟨HS.out.below hb' HS.out.lt⟩
            replace HK : Kp _ := ⟨HK.out.below hb' HK.out.lt⟩
            replace HX : Kp _ := ⟨HX.out.below hb' HX.out.lt⟩
            replace hB := hB.trans (hb'.mono hB.size)
            clear hb'
            refine wpAny_ready (rs := [11]) (by kernel_rfl) (by simp) ?_
            refine AllReady.cons (o := ⟨none, _, _, _, _, _⟩) rfl (fun K hK => ?_) AllReady.nil
            refine step_store rwState rfl (.tmp 3) (.tmp 27) rfl rfl rfl HS.out (words4 _) (fit_all HLi.out) (cells32_one _) ?_
            intro w64 hk ho
            refine hK _ _ ?_
            clear hK K
            simp only [Act.put]
            have HSn : Kp (Blk w64 w.heap.size 78 (cells32 (wordsL (addL (mixL (shiftL s bx 16) 16) (kch bx key k) 16)))) := ⟨by have h := hk; rw [store_all (words4 _) (words4 _)] at h; exact h⟩
            replace HR : Kp _ := ⟨HR.out.only ho (by omega)⟩
            replace HK : Kp _ := ⟨HK.out.only ho (by omega)⟩
            replace HX : Kp _ := ⟨HX.out.only ho (by omega)⟩
            replace hB := hB.trans (ho.below (Nat.le_refl _))
            clear hk ho HS
            refine wpAny_done (by kernel_rfl) ?_ _
            rw [← HBL.out, HKI.out] at HSn
            clear hw1 hk11
            go_wp2
            go_roundg g2
            case rel => exact ⟨i + 1, by omega, by go_num, HSn, HR, HK, HX, hB⟩
            case measure => omega
          · refine step_load rwState rfl (.tmp 25) rfl rfl HK.out HF0.out HP0.out ?_
            refine hK _ _ ?_
            clear hK K
            try simp only [Act.put, List.setIfInBounds_toArray, List.set_cons_zero, List.set_cons_succ]
            refine wpAny_ready (rs := [3]) (by kernel_rfl) (by simp) ?_
            refine AllReady.cons (o := ⟨some 20, _, _, _, _, _⟩) rfl (fun K hK => ?_) AllReady.nil
            go_simp
            refine (mix_any (shiftL s bx 16) w61).mono ?_
            rintro e w65 ⟨rfl, hb'⟩
            refine hK _ _ ?_
            clear hK K
            try simp only [Act.put, List.setIfInBounds_toArray, List.set_cons_zero, List.set_cons_succ]
            replace HR : Kp _ := ⟨HR.out.below hb' HR.out.lt⟩
            replace HS : Kp _ := ⟨HS.out.below hb' HS.out.lt⟩
            replace HK : Kp _ := ⟨HK.out.below hb' HK.out.lt⟩
            replace HX : Kp _ := ⟨HX.out.below hb' HX.out.lt⟩
            replace hB := hB.trans (hb'.mono hB.size)
            clear hb'
            refine wpAny_ready (rs := [10]) (by kernel_rfl) (by simp) ?_
            refine AllReady.cons (o := ⟨some 27, _, _, _, _, _⟩) rfl (fun K hK => ?_) AllReady.nil
            go_simp
            refine (add_any (mixL (shiftL s bx 16) 16) (kch bx key k) w65).mono ?_
            rintro e w66 ⟨rfl, hb'⟩
            refine hK _ _ ?_
            clear hK K
            try simp only [Act.put, List.setIfInBounds_toArray, List.set_cons_zero, List.set_cons_succ]
            replace HR : Kp _ := ⟨HR.out.below hb' HR.out.lt⟩
            replace HS : Kp _ := ⟨HS.out.below hb' HS.out.lt⟩
            replace HK : Kp _ := ⟨HK.out.below hb' HK.out.lt⟩
            replace HX : Kp _ := ⟨HX.out.below hb' HX.out.lt⟩
            replace hB := hB.trans (hb'.mono hB.size)
            clear hb'
            refine wpAny_ready (rs := [11]) (by kernel_rfl) (by simp) ?_
            refine AllReady.cons (o := ⟨none, _, _, _, _, _⟩) rfl (fun K hK => ?_) AllReady.nil
            refine step_store rwState rfl (.tmp 3) (.tmp 27) rfl rfl rfl HS.out (words4 _) (fit_all HLi.out) (cells32_one _) ?_
            intro w67 hk ho
            refine hK _ _ ?_
            clear hK K
            simp only [Act.put]
            have HSn : Kp (Blk w67 w.heap.size 78 (cells32 (wordsL (addL (mixL (shiftL s bx 16) 16) (kch bx key k) 16)))) := ⟨by have h := hk; rw [store_all (words4 _) (words4 _)] at h; exact h⟩
            replace HR : Kp _ := ⟨HR.out.only ho (by omega)⟩
            replace HK : Kp _ := ⟨HK.out.only ho (by omega)⟩
            replace HX : Kp _ := ⟨HX.out.only ho (by omega)⟩
            replace hB := hB.trans (ho.below (Nat.le_refl _))
            clear hk ho HS
            refine wpAny_done (by kernel_rfl) ?_ _
            rw [← HBL.out, HKI.out] at HSn
            clear hw1 hk11
            go_wp2
            go_roundg g2
            case rel => exact ⟨i + 1, by omega, by go_num, HSn, HR, HK, HX, hB⟩
            case measure => omega
        · refine step_load rwState rfl (.tmp 25) rfl rfl HK.out HF0.out HP0.out ?_
          refine hK _ _ ?_
          clear hK K
          try simp only [Act.put, List.setIfInBounds_toArray, List.set_cons_zero, List.set_cons_succ]
          refine wpAny_ready (rs := [2]) (by kernel_rfl) (by simp) ?_
          refine AllReady.cons (o := ⟨some 19, _, _, _, _, _⟩) rfl (fun K hK => ?_) AllReady.nil
          go_simp
          refine (shift_any s gx t bx wS HX.out HLx.out).mono ?_
          rintro e w68 ⟨rfl, hb'⟩
          refine hK _ _ ?_
          clear hK K
          try simp only [Act.put, List.setIfInBounds_toArray, List.set_cons_zero, List.set_cons_succ]
          replace HR : Kp _ := ⟨HR.out.below hb' HR.out.lt⟩
          replace HS : Kp _ := ⟨HS.out.below hb' HS.out.lt⟩
          replace HK : Kp _ := ⟨HK.out.below hb' HK.out.lt⟩
          replace HX : Kp _ := ⟨HX.out.below hb' HX.out.lt⟩
          replace hB := hB.trans (hb'.mono hB.size)
          clear hb'
          refine wpAny_ready (rs := [3]) (by kernel_rfl) (by simp) ?_
          refine AllReady.cons (o := ⟨some 20, _, _, _, _, _⟩) rfl (fun K hK => ?_) AllReady.nil
          go_simp
          refine (mix_any (shiftL s bx 16) w68).mono ?_
          rintro e w69 ⟨rfl, hb'⟩
          refine hK _ _ ?_
          clear hK K
          try simp only [Act.put, List.setIfInBounds_toArray, List.set_cons_zero, List.set_cons_succ]
          replace HR : Kp _ := ⟨HR.out.below hb' HR.out.lt⟩
          replace HS : Kp _ := ⟨HS.out.below hb' HS.out.lt⟩
          replace HK : Kp _ := ⟨HK.out.below hb' HK.out.lt⟩
          replace HX : Kp _ := ⟨HX.out.below hb' HX.out.lt⟩
          replace hB := hB.trans (hb'.mono hB.size)
          clear hb'
          refine wpAny_ready (rs := [10]) (by kernel_rfl) (by simp) ?_
          refine AllReady.cons (o := ⟨some 27, _, _, _, _, _⟩) rfl (fun K hK => ?_) AllReady.nil
          go_simp
          refine (add_any (mixL (shiftL s bx 16) 16) (kch bx key k) w69).mono ?_
          rintro e w70 ⟨rfl, hb'⟩
          refine hK _ _ ?_
          clear hK K
          try simp only [Act.put, List.setIfInBounds_toArray, List.set_cons_zero, List.set_cons_succ]
          replace HR : Kp _ := ⟨HR.out.below hb' HR.out.lt⟩
          replace HS : Kp _ := ⟨HS.out.below hb' HS.out.lt⟩
          replace HK : Kp _ := ⟨HK.out.below hb' HK.out.lt⟩
          replace HX : Kp _ := ⟨HX.out.below hb' HX.out.lt⟩
          replace hB := hB.trans (hb'.mono hB.size)
          clear hb'
          refine wpAny_ready (rs := [11]) (by kernel_rfl) (by simp) ?_
          refine AllReady.cons (o := ⟨none, _, _, _, _, _⟩) rfl (fun K hK => ?_) AllReady.nil
          refine step_store rwState rfl (.tmp 3) (.tmp 27) rfl rfl rfl HS.out (words4 _) (fit_all HLi.out) (cells32_one _) ?_
          intro w71 hk ho
          refine hK _ _ ?_
          clear hK K
          simp only [Act.put]
          have HSn : Kp (Blk w71 w.heap.size 78 (cells32 (wordsL (addL (mixL (shiftL s bx 16) 16) (kch bx key k) 16)))) := ⟨by have h := hk; rw [store_all (words4 _) (words4 _)] at h; exact h⟩
          replace HR : Kp _ := ⟨HR.out.only ho (by omega)⟩
          replace HK : Kp _ := ⟨HK.out.only ho (by omega)⟩
          replace HX : Kp _ := ⟨HX.out.only ho (by omega)⟩
          replace hB := hB.trans (ho.below (Nat.le_refl _))
          clear hk ho HS
          refine wpAny_done (by kernel_rfl) ?_ _
          rw [← HBL.out, HKI.out] at HSn
          clear hw1 hk11
          go_wp2
          go_roundg g2
          case rel => exact ⟨i + 1, by omega, by go_num, HSn, HR, HK, HX, hB⟩
          case measure => omega
      · refine step_load rwState rfl (.tmp 25) rfl rfl HK.out HF0.out HP0.out ?_
        refine hK _ _ ?_
        clear hK K
        try simp only [Act.put, List.setIfInBounds_toArray, List.set_cons_zero, List.set_cons_succ]
        refine wpAny_ready (rs := [0]) (by kernel_rfl) (by simp) ?_
        refine AllReady.cons (o := ⟨some 17, _, _, _, _, _⟩) rfl (fun K hK => ?_) AllReady.nil
        refine step_load rwState rfl (.tmp 3) rfl rfl HS.out (fit_all HLi.out) (take_all HLi.out) ?_
        refine hK _ _ ?_
        clear hK K
        try simp only [Act.put, List.setIfInBounds_toArray, List.set_cons_zero, List.set_cons_succ]
        refine wpAny_ready (rs := [2]) (by kernel_rfl) (by simp) ?_
        refine AllReady.cons (o := ⟨some 19, _, _, _, _, _⟩) rfl (fun K hK => ?_) AllReady.nil
        go_simp
        refine (shift_any s gx t bx wS HX.out HLx.out).mono ?_
        rintro e w72 ⟨rfl, hb'⟩
        refine hK _ _ ?_
        clear hK K
        try simp only [Act.put, List.setIfInBounds_toArray, List.set_cons_zero, List.set_cons_succ]
        replace HR : Kp _ := ⟨HR.out.below hb' HR.out.lt⟩
        replace HS : Kp _ := ⟨HS.out.below hb' HS.out.lt⟩
        replace HK : Kp _ := ⟨HK.out.below hb' HK.out.lt⟩
        replace HX : Kp _ := ⟨HX.out.below hb' HX.out.lt⟩
        replace hB := hB.trans (hb'.mono hB.size)
        clear hb'
        refine wpAny_ready (rs := [3]) (by kernel_rfl) (by simp) ?_
        refine AllReady.cons (o := ⟨some 20, _, _, _, _, _⟩) rfl (fun K hK => ?_) AllReady.nil
        go_simp
        refine (mix_any (shiftL s bx 16) w72).mono ?_
        rintro e w73 ⟨rfl, hb'⟩
        refine hK _ _ ?_
        clear hK K
        try simp only [Act.put, List.setIfInBounds_toArray, List.set_cons_zero, List.set_cons_succ]
        replace HR : Kp _ := ⟨HR.out.below hb' HR.out.lt⟩
        replace HS : Kp _ := ⟨HS.out.below hb' HS.out.lt⟩
        replace HK : Kp _ := ⟨HK.out.below hb' HK.out.lt⟩
        replace HX : Kp _ := ⟨HX.out.below hb' HX.out.lt⟩
        replace hB := hB.trans (hb'.mono hB.size)
        clear hb'
        refine wpAny_ready (rs := [10]) (by kernel_rfl) (by simp) ?_
        refine AllReady.cons (o := ⟨some 27, _, _, _, _, _⟩) rfl (fun K hK => ?_) AllReady.nil
        go_simp
        refine (add_any (mixL (shiftL s bx 16) 16) (kch bx key k) w73).mono ?_
        rintro e w74 ⟨rfl, hb'⟩
        refine hK _ _ ?_
        clear hK K
        try simp only [Act.put, List.setIfInBounds_toArray, List.set_cons_zero, List.set_cons_succ]
        replace HR : Kp _ := ⟨HR.out.below hb' HR.out.lt⟩
        replace HS : Kp _ := ⟨HS.out.below hb' HS.out.lt⟩
        replace HK : Kp _ := ⟨HK.out.below hb' HK.out.lt⟩
        replace HX : Kp _ := ⟨HX.out.below hb' HX.out.lt⟩
        replace hB := hB.trans (hb'.mono hB.size)
        clear hb'
        refine wpAny_ready (rs := [11]) (by kernel_rfl) (by simp) ?_
        refine AllReady.cons (o := ⟨none, _, _, _, _, _⟩) rfl (fun K hK => ?_) AllReady.nil
        refine step_store rwState rfl (.tmp 3) (.tmp 27) rfl rfl rfl HS.out (words4 _) (fit_all HLi.out) (cells32_one _) ?_
        intro w75 hk ho
        refine hK _ _ ?_
        clear hK K
        simp only [Act.put]
        have HSn : Kp (Blk w75 w.heap.size 78 (cells32 (wordsL (addL (mixL (shiftL s bx 16) 16) (kch bx key k) 16)))) := ⟨by have h := hk; rw [store_all (words4 _) (words4 _)] at h; exact h⟩
        replace HR : Kp _ := ⟨HR.out.only ho (by omega)⟩
        replace HK : Kp _ := ⟨HK.out.only ho (by omega)⟩
        replace HX : Kp _ := ⟨HX.out.only ho (by omega)⟩
        replace hB := hB.trans (ho.below (Nat.le_refl _))
        clear hk ho HS
        refine wpAny_done (by kernel_rfl) ?_ _
        rw [← HBL.out, HKI.out] at HSn
        clear hw1 hk11
        go_wp2
        go_roundg g2
        case rel => exact ⟨i + 1, by omega, by go_num, HSn, HR, HK, HX, hB⟩
        case measure => omega
end Go.Proofs.YtckmobpjdpjocaaDoor

namespace Go.Proofs.YtckmobpjdpjocaaDoor
open Go.RowKit

/-- a Cipher by a key -/
structure Ci (w : World) (g : Nat) (key : List UInt8) : Prop where
  blk : Blk w g 84 (cells32 ((List.range 44).map (Wk boxB key)))
theorem Ci.below {w w' : World} {g : Nat} {key : List UInt8} (h : Ci w g key) (hb : Below w.heap.size w w') : Ci w' g key := ⟨h.blk.below hb h.blk.lt⟩
theorem store_all16 {cs vs : List Value} (h : cs.length = 16) (_h2 : vs.length = 16) : cs.take 0 ++ vs ++ cs.drop (0 + 16) = vs := by rw [List.drop_of_length_le (by omega)]; simp
theorem rwKey : Rw Tryd.prog 23 (.array 16 5) 16 := ⟨by kernel_rfl, rfl, by kernel_rfl⟩
theorem cipher_built (g : Nat → UInt32) : Tryd.prog.built 84 [(0, .agg (cells32 ((List.range 44).map g)).toArray)] = some (cells32 ((List.range 44).map g)).toArray := by kernel_rfl
set_option maxRecDepth 100000 in
set_option maxHeartbeats 2000000 in
theorem new_any (key : List UInt8) (w : World) (hk : key.length = 16) : Calls Tryd.prog 20 #[.agg (cells8 key).toArray] w fun e w' => ∃ g, e = .returned (.pointer (some ⟨g, 0, none⟩)) ∧ Ci w' g key ∧ Below w.heap.size w w' := by
  have HK : Kp _ := ⟨hk⟩
  clear hk
  go_enter Tryd.func20, Tryd.ntmps20
  go_wp2_with (with_reducible refine wpList_box (o := ⟨some 1, _, _, _, _, _⟩) rfl (.tmp 0) rfl rfl ?_)
  intro w1 hk1 hb1 hs1
  have HK1 : Kp _ := ⟨hk1⟩
  have HLk : Kp ((cells8 key).length = 16) := ⟨by rw [cells8_length]; exact HK.out⟩
  clear hk1 hs1
  go_wp2_with fail
  refine (makeBox_any w1).mono ?_
  rintro e w2 ⟨rfl, hb2⟩
  have HK2 : Kp _ := ⟨HK1.out.below hb2 HK1.out.lt⟩
  have hB2 := hb1.trans (hb2.mono hb1.size)
  have HL : Kp ((cells8 boxB).length = 256) := ⟨by rw [cells8_length, boxB_length]⟩
  have HZ : Kp (zero256.length = 256) := ⟨by unfold zero256; exact List.length_replicate⟩
  obtain ⟨L, hL⟩ : ∃ L, L = boxB := ⟨_, rfl⟩
  have HG : Kp _ := ⟨hL⟩
  rw [← hL] at HL ⊢
  clear hL hb1 hb2 HK1
  go_wp2_with (with_reducible refine wpList_alloc (o := ⟨some 3, _, _, _, _, _⟩) tyTable rfl rfl ?_)
  intro w3 hk3 hb3 hs3
  have HT3 : Kp _ := ⟨hk3⟩
  have HK3 : Kp _ := ⟨HK2.out.below hb3 HK2.out.lt⟩
  have hB3 := hB2.trans (hb3.mono hB2.size)
  have hgx : w.heap.size < w2.heap.size := HK2.out.lt
  obtain ⟨gx, hg⟩ : ∃ g, g = w2.heap.size := ⟨_, rfl⟩
  rw [← hg] at HT3 hgx ⊢
  clear hk3 hs3 hb3 hg hB2 HK2
  go_wp2_with (first
    | (refine wpList_storeAll (o := ⟨none, _, _, _, _, _⟩) (vs := cells8 L) rwTable rfl (.tmp 3) (.tmp 4) rfl rfl HT3.out HZ.out HL.out (cells8_one _) rfl ?_))
  intro w4 hk4 ho4
  have HX : Kp _ := ⟨hk4⟩
  have HK4 : Kp _ := ⟨HK3.out.only ho4 (by omega)⟩
  have hB4 := hB3.trans (ho4.below (Nat.le_of_lt hgx))
  clear hk4 ho4 hB3 HT3 HK3
  go_wp2_with (with_reducible refine wpList_loadAll (o := ⟨some 5, _, _, _, _, _⟩) rwKey rfl (.tmp 1) rfl rfl HK4.out HLk.out ?_)
  go_wp2_with fail
  refine (columns_any key _ HK.out).mono ?_
  rintro e w5 ⟨rfl, hb5⟩
  have HX5 : Kp (Blk w5 gx 75 (cells8 boxB)) := ⟨by rw [← HG.out]; exact HX.out.below hb5 HX.out.lt⟩
  have hB5 := hB4.trans (hb5.mono hB4.size)
  clear hb5 hB4 HX HK4 HG HL
  go_wp2_with fail
  refine (expand_any key gx _ boxB _ HX5.out boxB_length).mono ?_
  rintro e w6 ⟨rfl, hb6⟩
  have hB6 := hB5.trans (hb6.mono hB5.size)
  have HBu : Kp _ := ⟨cipher_built (Wk boxB key)⟩
  clear hB5 hb6 HX5
  obtain ⟨M, hM⟩ : ∃ L, L = (List.range 44).map (Wk boxB key) := ⟨_, rfl⟩
  have HM : Kp _ := ⟨hM⟩
  rw [← hM] at HBu ⊢
  clear hM
  go_wp2_with (first
    | (refine wpList_build1 (o := ⟨some 8, _, _, _, _, _⟩) rfl 0 (.tmp 7) rfl rfl HBu.out ?_)
    | (with_reducible refine wpList_box (o := ⟨some 9, _, _, _, _, _⟩) rfl (.tmp 8) rfl rfl ?_))
  intro w7 hk7 hb7 hs7
  have HK7 : Kp _ := ⟨hk7⟩
  have hB7 := hB6.trans (hb7.mono hB6.size)
  clear hk7 hs7
  go_wp2
  go_ret
  exact ⟨_, rfl, ⟨by rw [← HM.out]; exact HK7.out⟩, hB7⟩
end Go.Proofs.YtckmobpjdpjocaaDoor
