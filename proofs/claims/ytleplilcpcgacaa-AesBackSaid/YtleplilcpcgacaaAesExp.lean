/- The contract of package aes's expand. -/
import Derived.Test.YtleplilcpcgacaaAesRound3
import Derived.Test.YtleplilcpcgacaaAesKey
import Derived.Test.YtleplilcpcgacaaBuild
namespace Go.Proofs.Ytleplilcpcgacaa
open Go.RowKit

def zero44 : List Value := List.replicate 44 (.int .u32 0)
theorem tyKeys : Ty Try.prog 62 zero44 := ⟨by kernel_rfl⟩
theorem rwKeys : Rw Try.prog 62 (.array 11 61) 44 := ⟨by kernel_rfl, rfl, by kernel_rfl⟩
theorem keys_built (g : Nat → UInt32) : Try.prog.built 62 [(0, .agg (cells32 ((List.range 4).map g)).toArray)] = some (cells32 ((List.range 44).map fun j => if j < 4 then g j else 0)).toArray := by kernel_rfl
theorem keys_start (bx key : List UInt8) : ((List.range 44).map fun j => if j < 4 then wd key j else 0) = partW (Wk bx key) (fun _ => 0) 44 4 := by
  unfold partW
  refine List.map_congr_left fun j _ => ?_
  by_cases h : j < 4
  · rw [if_pos h, if_pos h, Wk_low bx key j h]
  · rw [if_neg h, if_neg h]
theorem part_words (bx key : List UInt8) (r k : Nat) (hr : r < 11) (hk : 4 * r + 4 ≤ k) : ((cells32 (partW (Wk bx key) (fun _ => 0) 44 k)).drop (r * 4)).take 4 = cells32 (wordsL (kch bx key r)) := by
  refine List.ext_getElem (by simp [cells32, wordsL, partW]; omega) fun i h1 h2 => ?_
  have hi : i < 4 := by simpa [cells32, wordsL] using h2
  have e1 := wordsL_at (kch bx key r) i hi
  rw [wd_kch bx key r i hi] at e1
  rw [List.getElem?_eq_getElem h2] at e1
  rw [Option.some.inj e1, List.getElem_take, List.getElem_drop]
  simp only [cells32, partW, List.getElem_map, List.getElem_range]
  rw [if_pos (by omega), show r * 4 + i = 4 * r + i by omega]
/-- the running word of a round -/
def nw (bx key : List UInt8) (i j : Nat) : UInt32 := if j = 0 then subN bx (rl (Wk bx key (4 * i + 3))) ^^^ w4 (rcon i) 0 0 0 else Wk bx key (4 * (i + 1) + j - 1)
theorem nw_next (bx key : List UInt8) (i j : Nat) (hi : i < 10) (hj : j < 4) : nw bx key i j ^^^ Wk bx key (4 * i + j) = Wk bx key (4 * (i + 1) + j) := by
  rw [show 4 * (i + 1) + j = (4 * i + j) + 4 by omega, Wk_step bx key (4 * i + j) (by omega)]
  unfold nw kg
  by_cases h : j = 0
  · subst h
    rw [if_pos rfl, if_pos (by omega), show (4 * i + 0) / 4 = i by omega, Nat.add_zero]
  · rw [if_neg h, if_neg (by omega), show 4 * (i + 1) + j - 1 = 4 * i + j + 3 by omega]
theorem nw_succ (bx key : List UInt8) (i j : Nat) : nw bx key i (j + 1) = Wk bx key (4 * (i + 1) + j) := by
  unfold nw
  rw [if_neg (by omega)]; rfl
theorem rc_val (x : UInt32) (c : UInt8) : bits .xor .u32 (x.toNat : Int) ((c.toNat : Int) * 16777216) = ((x ^^^ w4 c 0 0 0).toNat : Int) := by
  have e1 : (c.toNat : Int) * 16777216 = ((w4 c 0 0 0).toNat : Int) := by rw [w4_nat]; simp
  rw [e1, u32_xor']
theorem rl_turn (x : UInt32) (w : World) : Calls Try.prog 39 #[.int .u32 x.toNat, .int .i64 8] w fun e w' => e = .returned (.int .u32 (rl x).toNat) ∧ ∃ q, w' = w.drewN q := by
  have h := turn_8 (by4 x 0) (by4 x 1) (by4 x 2) (by4 x 3) w
  rw [← w4_of] at h
  exact h
set_option maxRecDepth 100000 in
set_option maxHeartbeats 4000000 in
theorem expand_any (key : List UInt8) (gx : Nat) (t : TypeId) (bx : List UInt8) (w : World) (hb : Blk w gx t (cells8 bx)) (hl : bx.length = 256) :
    Calls Try.prog 30 #[.agg (cells32 (wordsL key)).toArray, .pointer (some ⟨gx, 0, none⟩)] w fun e w' => e = .returned (.agg (cells32 ((List.range 44).map (Wk bx key))).toArray) ∧ Below w.heap.size w w' := by
  have HX : Kp _ := ⟨hb⟩
  have HLx : Kp (bx.length = 256) := ⟨hl⟩
  have hgx := hb.lt
  clear hb hl
  go_enter Try.func30, Try.ntmps30
  go_wp2_with (with_reducible refine wpList_box (o := ⟨some 2, _, _, _, _, _⟩) rfl (.tmp 0) rfl rfl ?_)
  intro w1 hk1 hb1 hs1
  have HK1 : Kp _ := ⟨hk1⟩
  clear hk1 hs1
  go_wp2_with (with_reducible refine wpList_alloc (o := ⟨some 4, _, _, _, _, _⟩) tyKeys rfl rfl ?_)
  intro w2 hk2 hb2 hs2
  have HR2 : Kp _ := ⟨hk2⟩
  have HK12 : Kp _ := ⟨HK1.out.below hb2 HK1.out.lt⟩
  have HLw : Kp ((cells32 (wordsL key)).length = 4) := ⟨by rw [cells32_length, wordsL_length]⟩
  have hB2 : Below w.heap.size w w2 := hb1.trans (hb2.mono hb1.size)
  have n1 : w.heap.size < w1.heap.size := HK1.out.lt
  have HBu : Kp (Try.prog.built 62 [(0, .agg (cells32 (wordsL key)).toArray)] = some (cells32 (partW (Wk bx key) (fun _ => 0) 44 4)).toArray) := ⟨by rw [← keys_start]; exact keys_built (wd key)⟩
  clear hk2 hs2 hb1 hb2 HK1
  go_wp2_with (first
    | (with_reducible refine wpList_loadAll (o := ⟨some 11, _, _, _, _, _⟩) rwState rfl (.tmp 2) rfl rfl HK12.out HLw.out ?_)
    | (refine wpList_build1 (o := ⟨some 12, _, _, _, _, _⟩) rfl 0 (.tmp 11) rfl rfl HBu.out ?_)
    | (with_reducible refine wpList_alloc (o := ⟨some 5, _, _, _, _, _⟩) tyKeys rfl rfl ?_))
  intro w3 hk3 hb3 hs3
  have HK3 : Kp _ := ⟨hk3⟩
  have HR3 : Kp _ := ⟨HR2.out.below hb3 HR2.out.lt⟩
  have HZ : Kp (zero44.length = 44) := ⟨by simp [zero44]⟩
  have HL4 : Kp ((cells32 (partW (Wk bx key) (fun _ => 0) 44 4)).length = 44) := ⟨by rw [cells32_length, partW_length]⟩
  have n2 : w1.heap.size < w2.heap.size := HR2.out.lt
  have hB3 : Below w.heap.size w w3 := hB2.trans (hb3.mono hB2.size)
  obtain ⟨g1, hg1⟩ : ∃ g, g = w1.heap.size := ⟨_, rfl⟩
  obtain ⟨g2, hg2⟩ : ∃ g, g = w2.heap.size := ⟨_, rfl⟩
  rw [← hg1] at HR3 n1 n2 ⊢
  rw [← hg2] at HK3 n2 ⊢
  clear hk3 hs3 hb3 HR2 HK12 hB2 hg1 hg2 HLw HBu
  go_wp2_with (with_reducible refine wpList_storeAll (o := ⟨none, _, _, _, _, _⟩) (vs := cells32 (partW (Wk bx key) (fun _ => 0) 44 4)) rwKeys rfl (.tmp 5) (.tmp 12) rfl rfl HK3.out HZ.out HL4.out (cells32_one _) rfl ?_)
  intro w4' hk4 ho4
  have HK4 : Kp _ := ⟨hk4⟩
  have HR4 : Kp _ := ⟨HR3.out.only ho4 (by omega)⟩
  have hB4 : Below w.heap.size w w4' := hB3.trans (ho4.below (by omega))
  clear hk4 ho4 HK3 HR3 hB3 HL4
  go_wp2
  go_loopg [6, 13] 10 (fun gk vc vi wr => ∃ i : Nat, i + gk = 10 ∧ vi = .int .i64 i ∧ vc = .int .u8 (rcon i).toNat ∧ Kp (Blk wr g2 62 (cells32 (partW (Wk bx key) (fun _ => 0) 44 (4 * (i + 1))))) ∧ Kp (Blk wr g1 62 zero44) ∧ Below w.heap.size w wr)
  case atStart => exact ⟨0, by omega, rfl, rfl, HK4, HR4, hB4⟩
  case round =>
    clear HK4 HR4 hB4
    obtain ⟨i, hi, rfl, rfl, HK, HR, hB⟩ := hrel
    cases gk with
    | zero =>
      obtain rfl : i = 10 := by omega
      have HD : Kp (Blk wr g2 62 (cells32 ((List.range 44).map (Wk bx key)))) := ⟨by
        have h := HK.out
        rw [show 4 * (10 + 1) = 44 from rfl, partW_done] at h
        exact h⟩
      have HLen : Kp ((cells32 ((List.range 44).map (Wk bx key))).length = 44) := ⟨by rw [cells32_length]; simp⟩
      generalize hL : (List.range 44).map (Wk bx key) = L at *
      have HL : Kp _ := ⟨hL⟩
      clear HK hL
      go_wp2_with (first
        | (with_reducible refine wpList_loadAll (o := ⟨some 46, _, _, _, _, _⟩) rwKeys rfl (.tmp 5) rfl rfl HD.out HLen.out ?_)
        | (with_reducible refine wpList_storeAll (o := ⟨none, _, _, _, _, _⟩) (vs := cells32 L) rwKeys rfl (.tmp 4) (.tmp 46) rfl rfl HR.out HZ.out HLen.out (cells32_one _) rfl ?_))
      intro w5 hk5 ho5
      have HK5 : Kp _ := ⟨hk5⟩
      clear hk5
      go_wp2
      exact ret_arr rfl rwKeys rfl HK5.out HLen.out rfl ⟨by first | rfl | rw [HL.out], hB.trans (ho5.below (by omega))⟩
    | succ g3 =>
      have hiI : (i : Int) < 10 := by omega
      have hi11 : (i : Int) < 11 := by omega
      have hi10 : Kp (i < 10) := ⟨by omega⟩
      have HP : Kp _ := ⟨part_words bx key i (4 * (i + 1)) (by omega) (by omega)⟩
      have HL4 : Kp (i * 4 + 4 ≤ (cells32 (partW (Wk bx key) (fun _ => 0) 44 (4 * (i + 1)))).length) := ⟨by rw [cells32_length, partW_length]; omega⟩
      have HLk : Kp ((cells32 (wordsL (kch bx key i))).length = 4) := ⟨by rw [cells32_length, wordsL_length]⟩
      have HZ4 : Kp (zero4.length = 4) := ⟨rfl⟩
      obtain ⟨wa, rfl⟩ : ∃ x, x = wr := ⟨wr, rfl⟩
      go_wp2_with (first
        | (with_reducible refine wpList_loadv (o := ⟨some 18, _, _, _, _, _⟩) rwState rfl (.tmp 17) rfl rfl HK.out HL4.out HP.out ?_)
        | (with_reducible refine wpList_alloc (o := ⟨some 8, _, _, _, _, _⟩) tyState rfl rfl ?_))
      intro wb hkb hbb hsb
      have HKb : Kp _ := ⟨hkb⟩
      clear hkb hsb
      have HK2 : Kp _ := ⟨HK.out.below hbb HK.out.lt⟩
      have HR2 : Kp _ := ⟨HR.out.below hbb HR.out.lt⟩
      have hlt2 : g2 < wa.heap.size := HK.out.lt
      have hlt1 : g1 < wa.heap.size := HR.out.lt
      have hgs : w.heap.size ≤ wa.heap.size := hB.size
      have hBb : Below w.heap.size w wb := hB.trans (hbb.mono hgs)
      obtain ⟨g8, hg8⟩ : ∃ g, g = wa.heap.size := ⟨_, rfl⟩
      rw [← hg8] at HKb hlt2 hlt1 hgs ⊢
      clear HK HR hB hbb HL4 HP hg8
      go_wp2_with (refine wpList_storeAll (o := ⟨none, _, _, _, _, _⟩) (vs := cells32 (wordsL (kch bx key i))) rwState rfl (.tmp 8) (.tmp 18) rfl rfl HKb.out HZ4.out HLk.out (cells32_one _) rfl ?_)
      intro wc hkc hoc
      have HKc : Kp _ := ⟨hkc⟩
      have HK3 : Kp _ := ⟨HK2.out.only hoc (by omega)⟩
      have HR3 : Kp _ := ⟨HR2.out.only hoc (by omega)⟩
      have hBc : Below w.heap.size w wc := hBb.trans (hoc.below hgs)
      have c3 := (HKc.out.cell? 3).trans (wordsL_at (kch bx key i) 3 (by omega))
      rw [wd_kch bx key i 3 (by omega)] at c3
      have HXc : Kp _ := ⟨HX.out.below hBc hgx⟩
      have hrc := rc_val (subN bx (rl (Wk bx key (4 * i + 3)))) (rcon i)
      rw [show subN bx (rl (Wk bx key (4 * i + 3))) ^^^ w4 (rcon i) 0 0 0 = nw bx key i 0 from rfl] at hrc
      have hrc8 := (rcon i).toNat_lt
      clear hkc hoc HKb HK2 HR2 hBb
      generalize Wk bx key (4 * i + 3) = x3 at *
      go_wp2_with fail
      refine (rl_turn x3 _).mono ?_
      rintro e w' ⟨rfl, q1, rfl⟩
      go_wp2_with fail
      refine (sub_any (rl x3) gx t bx _ (HXc.out.drewN q1) HLx.out).mono ?_
      rintro e w' ⟨rfl, rfl⟩
      go_wp2_with fail
      have HK4 : Kp (Blk (wc.drewN (q1 + 1)) g2 62 (cells32 (partW (Wk bx key) (fun _ => 0) 44 (4 * (i + 1) + 0)))) := ⟨HK3.out.drewN _⟩
      have HR4 : Kp _ := ⟨HR3.out.drewN (q1 + 1)⟩
      have HKc4 : Kp _ := ⟨HKc.out.drewN (q1 + 1)⟩
      have hB4 : Below w.heap.size w (wc.drewN (q1 + 1)) := below_drewN' hBc _
      generalize wc.drewN (q1 + 1) = wd0 at *
      clear hrc c3 HXc HK3 HR3 HKc hBc
      go_loopg [9, 28] 4 (fun g vw vj wx => ∃ j : Nat, j + g = 4 ∧ vj = .int .i64 j ∧ vw = .int .u32 (nw bx key i j).toNat ∧ Kp (Blk wx g2 62 (cells32 (partW (Wk bx key) (fun _ => 0) 44 (4 * (i + 1) + j)))) ∧ Kp (Blk wx g1 62 zero44) ∧ Kp (Blk wx g8 61 (cells32 (wordsL (kch bx key i)))) ∧ Below w.heap.size w wx)
      case atStart => exact ⟨0, by omega, rfl, rfl, HK4, HR4, HKc4, hB4⟩
      case round =>
        clear HK4 HR4 HKc4 hB4
        obtain ⟨j, hj, rfl, rfl, HK, HR, HS, hB⟩ := hrel
        cases gk with
        | zero =>
          obtain rfl : j = 4 := by omega
          go_wp2_with fail
          refine (double_any (rcon i) _).mono ?_
          rintro e w' ⟨rfl, rfl⟩
          rw [show xt (rcon i) = rcon (i + 1) from rfl]
          go_wp2
          go_roundg g3
          case rel => exact ⟨i + 1, by omega, by go_num, rfl, HK, HR, hB⟩
          case measure => omega
        | succ g4 =>
          have hjI : (j : Int) < 4 := by omega
          have cs := (HS.out.cell? j).trans (wordsL_at (kch bx key i) j (by omega))
          rw [wd_kch bx key i j (by omega)] at cs
          have hv : bits .xor .u32 ((nw bx key i j).toNat : Int) ((Wk bx key (4 * i + j)).toNat : Int) = ((nw bx key i (j + 1)).toNat : Int) := by rw [u32_xor', nw_next bx key i j hi10.out (by omega), nw_succ]
          have HSet : Kp _ := ⟨partW_set (Wk bx key) (fun _ => 0) 44 (4 * (i + 1) + j)⟩
          have hco := (HK.out.cell? (4 * (i + 1) + j)).trans (partW_at (Wk bx key) (fun _ => 0) 44 (4 * (i + 1) + j) (by have := hi10.out; omega))
          have hfo := HK.out.frozen (4 * (i + 1) + j)
          rw [← nw_succ] at HSet
          have HO : Kp ((i + 1) * 4 + j = 4 * (i + 1) + j) := ⟨by omega⟩
          rw [← HO.out] at hco hfo
          obtain ⟨y, hy⟩ : ∃ y, nw bx key i (j + 1) = y := ⟨_, rfl⟩
          have HY : Kp _ := ⟨hy⟩
          rw [hy] at hv HSet
          clear hy
          go_wp2
          go_roundg g4
          case rel =>
            refine ⟨j + 1, by omega, by go_num, ?_, ⟨?_⟩, ⟨HR.out.other (by show g1 ≠ g2; omega) _⟩, ⟨HS.out.other (by show g8 ≠ g2; omega) _⟩, hB.setCell (by show w.heap.size ≤ g2; omega) _⟩
            · rw [HY.out]
            · have h3 := HK.out.set (4 * (i + 1) + j) (.int .u32 (y.toNat : Int))
              rw [HSet.out] at h3
              rw [HO.out]
              exact h3
          case measure => omega
end Go.Proofs.Ytleplilcpcgacaa
