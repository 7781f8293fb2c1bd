/- The contract of the document's Decode. -/
import Derived.Test.YtmiobgongddaiaaNdQ
import Derived.Test.YtmiobgongddaiaaNdD
namespace Go.Proofs.Ytmiobgongddaiaa
open Go.RowKit Go.Shelf

def gtI (b : List UInt8) (at' wd : Nat) : Int := (getN ((b.drop at').take wd) : Nat)
/-- a record of which three numbers, the last one, and k pointers are read -/
def rdK (b : List UInt8) (k : Nat) : List Int := [gtI b 0 1, gtI b 1 2, gtI b 3 4] ++ ((List.range 6).map fun j => if j < k then gtI b (7 + 4 * j) 4 else 0) ++ [gtI b 31 4]
theorem rdK_length (b : List UInt8) (k : Nat) : (rdK b k).length = 10 := by simp [rdK]
theorem rdK_set (b : List UInt8) (k : Nat) (hk : k < 6) : (cellsZ (rdK b k)).set (3 + k) (.int .i64 (gtI b (7 + 4 * k) 4)) = cellsZ (rdK b (k + 1)) := by
  have hc : k = 0 ∨ k = 1 ∨ k = 2 ∨ k = 3 ∨ k = 4 ∨ k = 5 := by omega
  rcases hc with rfl | rfl | rfl | rfl | rfl | rfl <;> rfl
theorem rdK_six (b : List UInt8) : rdK b 6 = decL wideN b := by
  simp [rdK, wideN, decL, gtI, List.drop_drop, List.range_succ]
theorem rdK_zero (b : List UInt8) : rdK b 0 = [gtI b 0 1, gtI b 1 2, gtI b 3 4, 0, 0, 0, 0, 0, 0, gtI b 31 4] := rfl
section
variable {P : Program} {w : World} {ops : Array Oper} {rest : List Oper} {o : Oper} {a : Act} {Q : Exit → Act → World → Prop} {t : TypeId}
theorem wpList_build4 (hg : o.guard = none) (i j k l : Nat) (x y z q : Operand) (ho : o.op = .build t #[(i, x), (j, y), (k, z), (l, q)]) {v u s r : Value} (hx : a.eval x = v) (hy : a.eval y = u) (hz : a.eval z = s) (hq : a.eval q = r) {cs : List Value} (hb : P.built t [(i, v), (j, u), (k, s), (l, r)] = some cs.toArray)
    (h : wpList P ops Q rest (a.put o.dst (.agg cs.toArray)) w) : wpList P ops Q (o :: rest) a w := by
  refine wpList_plain hg fun K hK => ?_
  unfold Oper.wp execOp
  have hr := run_build (P := P) w t #[(i, v), (j, u), (k, s), (l, r)] cs.toArray (by simpa using hb)
  simp only [ho, Sem.run_bind, List.map_toArray, List.map_cons, List.map_nil, hx, hy, hz, hq, hr, Result.andThen_ok]
  exact hK _ _ h
end
theorem built_rd (a b c d : Int) : (Try.prog).built 24 [(0, .int .i64 a), (1, .int .i64 b), (2, .int .i64 c), (4, .int .i64 d)] = some (cellsZ [a, b, c, 0, 0, 0, 0, 0, 0, d]).toArray := by kernel_rfl
theorem zeros_step (b : List UInt8) (j : Nat) (x : UInt8) (hx : b[35 + j]? = some x) (h : (b.drop 35).take j = List.replicate j 0) (h0 : x = 0) : (b.drop 35).take (j + 1) = List.replicate (j + 1) 0 := by
  have h1 : (b.drop 35)[j]? = some x := by rw [List.getElem?_drop]; exact hx
  have h2 := (List.getElem?_eq_some_iff.1 h1).1
  rw [List.take_succ_eq_append_getElem h2, h, (List.getElem?_eq_some_iff.1 h1).2, h0, List.replicate_succ']
theorem zeros_no (b : List UInt8) (j : Nat) (x : UInt8) (hx : b[35 + j]? = some x) (hj : j < 29) (h0 : x ≠ 0) : (b.drop 35 == List.replicate 29 0) = false := by
  rw [beq_eq_false_iff_ne]
  intro e
  have h1 : (b.drop 35)[j]? = some x := by rw [List.getElem?_drop]; exact hx
  rw [e, List.getElem?_replicate, if_pos hj] at h1
  exact h0 (Option.some.inj h1).symm
section
set_option maxRecDepth 100000
set_option maxHeartbeats 4000000
theorem refdecode_any (A : Option Addr) (n c : Nat) (b : List UInt8) (w : World) (hb : Bs w w.heap.size A n c b) (hn9 : n ≤ 4294967296) :
    Calls Try.prog 20 #[.slice A n c] w fun e w' => e = .returned (.tuple #[.agg (cellsZ (decA b)).toArray, .int .i64 (decE b)]) ∧ Below w.heap.size w w' := by
  have HLn : Kp (b.length = n) := ⟨hb.len⟩
  obtain ⟨B0, hB0⟩ : ∃ B0, B0 = w.heap.size := ⟨_, rfl⟩
  have HBe : Kp (B0 = w.heap.size) := ⟨hB0⟩
  have hb0 : Bs w B0 A n c b := by rw [hB0]; exact hb
  have HBs0 : Kp _ := ⟨hb0⟩
  have HB0e : Kp (B0 ≤ w.heap.size) := ⟨by omega⟩
  clear hb hb0
  go_enter Try.func20, Try.ntmps20
  go_wp2_with (refine wpList_alloc tyNd rfl rfl ?_)
  intro w1 hk1 hb1 hs1
  rw [← hB0] at hk1 hs1 hb1 ⊢
  obtain ⟨R, hR⟩ : ∃ R, R = B0 := ⟨_, rfl⟩
  rw [← hR] at hk1 ⊢
  have HR1 : Kp (Blk w1 R 24 (cellsZ zero10)) := ⟨hk1⟩
  have HB1 : Kp (Below B0 w w1) := ⟨hb1⟩
  have HRB : Kp (B0 ≤ R) := ⟨by omega⟩
  have HBs1 : Kp _ := ⟨HBs0.out.below hb1⟩
  clear hk1 hb1 hs1 hB0 hR HBs0
  by_cases hn : n = 64
  · subst hn
    have HG : Kp (∀ (at' wd : Nat) (W : World), Bs W B0 A 64 c b → wd ≤ 4 → at' + wd ≤ 64 → Calls Try.prog 39 #[.slice A 64 c, .int .i64 (at' : Int), .int .i64 (wd : Int)] W fun e w' => e = .returned (.int .i64 (gtI b at' wd)) ∧ w' = W) := ⟨fun at' wd W h1 h2 h3 => refget3_any A 64 c at' wd B0 b W h1 h2 h3 (by decide)⟩
    go_wp2_with fail
    refine (HG.out 0 1 w1 HBs1.out (by decide) (by decide)).mono ?_
    rintro e w2 ⟨rfl, rfl⟩
    go_wp2_with fail
    refine (HG.out 1 2 w2 HBs1.out (by decide) (by decide)).mono ?_
    rintro e w3 ⟨rfl, rfl⟩
    go_wp2_with fail
    refine (HG.out 3 4 w3 HBs1.out (by decide) (by decide)).mono ?_
    rintro e w4 ⟨rfl, rfl⟩
    go_wp2_with fail
    refine (HG.out 31 4 w4 HBs1.out (by decide) (by decide)).mono ?_
    rintro e w5 ⟨rfl, rfl⟩
    have HZ0 : Kp _ := ⟨rdK_zero b⟩
    obtain ⟨z0, hz0⟩ : ∃ z, z = gtI b 0 1 := ⟨_, rfl⟩
    obtain ⟨z1, hz1⟩ : ∃ z, z = gtI b 1 2 := ⟨_, rfl⟩
    obtain ⟨z2, hz2⟩ : ∃ z, z = gtI b 3 4 := ⟨_, rfl⟩
    obtain ⟨z9, hz9⟩ : ∃ z, z = gtI b 31 4 := ⟨_, rfl⟩
    rw [← hz0, ← hz1, ← hz2, ← hz9] at HZ0
    rw [← hz0, ← hz1, ← hz2, ← hz9]
    clear hz0 hz1 hz2 hz9
    go_wp2_with (first | refine wpList_build4 rfl 0 1 2 4 _ _ _ _ rfl rfl rfl rfl rfl (built_rd z0 z1 z2 z9) ?_ | refine wpList_alloc tyNd rfl rfl ?_)
    intro w6 hk6 hb6 _
    obtain ⟨X, hX⟩ : ∃ X, X = w5.heap.size := ⟨_, rfl⟩
    rw [← hX] at hk6 ⊢
    have HX6 : Kp (Blk w6 X 24 (cellsZ zero10)) := ⟨hk6⟩
    have HR6 : Kp _ := ⟨HR1.out.below hb6 HR1.out.lt⟩
    have HRX : Kp (R ≠ X) := ⟨by rw [hX]; exact alloc_ne HR1.out⟩
    have HXB : Kp (B0 ≤ X) := ⟨by rw [hX]; exact Nat.le_trans HB0e.out HB1.out.size⟩
    have HB6 : Kp (Below B0 w w6) := ⟨HB1.out.trans (hb6.mono (Nat.le_trans HB0e.out HB1.out.size))⟩
    have HBs6 : Kp _ := ⟨HBs1.out.below (hb6.mono (Nat.le_trans HB0e.out HB1.out.size))⟩
    clear hk6 hb6 hX HB1 HBs1 HR1
    go_wp2_with (refine wpList_storeAll rwNd rfl _ _ rfl rfl HX6.out (n := 10) rfl (vs := cellsZ [z0, z1, z2, 0, 0, 0, 0, 0, 0, z9]) rfl (cellsZ_one _) rfl ?_)
    intro w7 hk7 ho7
    rw [← HZ0.out] at hk7
    have HX7 : Kp _ := ⟨hk7⟩
    have HR7 : Kp _ := ⟨HR6.out.only ho7 HRX.out⟩
    have HB7 : Kp (Below B0 w w7) := ⟨HB6.out.trans (ho7.below HXB.out)⟩
    have HBs7 : Kp _ := ⟨HBs6.out.below (ho7.below HXB.out)⟩
    clear hk7 ho7 HX6 HR6 HB6 HBs6 HZ0
    go_wp2
    go_loopg [5] 6 (fun gk v5 wr => ∃ k : Nat, k + gk = 6 ∧ v5 = .int .i64 (k : Int) ∧ Kp (Bs wr B0 A 64 c b) ∧ Kp (Blk wr X 24 (cellsZ (rdK b k))) ∧ Kp (Blk wr R 24 (cellsZ zero10)) ∧ Kp (Below B0 w wr))
    case atStart => exact ⟨0, by omega, rfl, HBs7, HX7, HR7, HB7⟩
    case round =>
      obtain ⟨k, hk6, rfl, HBb, HKr, HRr, HBr⟩ := hrel
      cases gk with
      | succ g2 =>
        have hgo : (k : Int) < 6 := by omega
        have hk : k < 6 := by omega
        obtain ⟨K, hK⟩ : ∃ K, K = 7 + 4 * k := ⟨_, rfl⟩
        obtain ⟨K4, hK4⟩ : ∃ K, K = 4 * k := ⟨_, rfl⟩
        have r0 : (4 : Int) * (k : Int) = (K4 : Int) := by omega
        have r1 : (7 : Int) + (K4 : Int) = (K : Int) := by omega
        have hK64 : K + 4 ≤ 64 ∧ K4 ≤ 64 := by omega
        have HCl : Kp _ := ⟨HG.out K 4 wr HBb.out (by decide) (by omega)⟩
        have hlen : (cellsZ (rdK b k)).length = 10 := by rw [cellsZ_length]; exact rdK_length b k
        obtain ⟨u3, c3⟩ : ∃ u, wr.cell? ⟨X, 3 + k, none⟩ = some u := ⟨_, HKr.out.cell (i := 3 + k) (by omega)⟩
        have f3 := HKr.out.frozen (3 + k)
        have ho := Only.setCell wr ⟨X, 3 + k, none⟩ (.int .i64 (gtI b K 4))
        have HX8 : Kp (Blk (wr.setCell ⟨X, 3 + k, none⟩ (.int .i64 (gtI b K 4))) X 24 (cellsZ (rdK b (k + 1)))) := ⟨by rw [← rdK_set b k hk, ← hK]; exact HKr.out.set (3 + k) _⟩
        have HR8 : Kp _ := ⟨HRr.out.only ho HRX.out⟩
        have HB8 : Kp _ := ⟨HBr.out.trans (ho.below HXB.out)⟩
        have HBs8 : Kp _ := ⟨HBb.out.below (ho.below HXB.out)⟩
        generalize gtI b K 4 = z at *
        clear hK hK4 ho hlen
        go_wp2_with fail
        refine HCl.out.mono ?_
        rintro e w8 ⟨rfl, rfl⟩
        go_wp2
        go_roundg g2
        case measure => omega
        case rel => exact ⟨k + 1, by omega, by go_num, HBs8, HX8, HR8, HB8⟩
      | zero =>
        have hend : ¬ ((k : Int) < 6) := by omega
        obtain rfl : k = 6 := by omega
        obtain ⟨zs, hzs⟩ : ∃ zs, zs = decL wideN b := ⟨_, rfl⟩
        have hl : zs.length = 10 := by rw [hzs, decL_length]; rfl
        have hK10 := HKr.out
        rw [rdK_six, ← hzs] at hK10
        have HK10 : Kp _ := ⟨hK10⟩
        have HLc : Kp ((cellsZ zs).length = 10) := ⟨by rw [cellsZ_length]; exact hl⟩
        have HDb : Kp (decB b = ((b.drop 35 == List.replicate 29 0) && okN zs) ∧ (decA b = if decB b then zs else zero10) ∧ (decE b = if decB b then 0 else 4)) := ⟨by
          refine ⟨?_, ?_, rfl⟩
          · rw [hzs]; exact decB_ref b HLn.out
          · unfold decA; rw [← hzs]; rfl⟩
        have HBad : Kp (decB b = false → decA b = zero10 ∧ decE b = 4) := ⟨fun h => by rw [HDb.out.2.1, HDb.out.2.2, h]; exact ⟨rfl, rfl⟩⟩
        have HCl : Kp (∀ W, Calls Try.prog 18 #[.agg (cellsZ zs).toArray] W fun e w' => e = .returned (.bool (okN zs)) ∧ Below W.heap.size W w') := ⟨fun W => refright_any zs hl W⟩
        clear hK10 hl hzs HKr HG
        go_wp2
        go_loopg [6] 29 (fun gk v6 wx => ∃ (k j : Nat), j + gk = 29 ∧ k = 35 + j ∧ v6 = .int .i64 (k : Int) ∧ Kp ((b.drop 35).take j = List.replicate j 0) ∧ wx = wr)
        case atStart => exact ⟨35, 0, by omega, rfl, rfl, ⟨rfl⟩, rfl⟩
        case round =>
          obtain ⟨k, j, hj, hkj, rfl, HZs, rfl⟩ := hrel
          cases gk with
          | zero =>
            have hend : ¬ ((k : Int) < 64) := by omega
            have HZ29 : Kp ((b.drop 35 == List.replicate 29 0) = true) := ⟨by
              have h := HZs.out
              rw [show j = 29 by omega, List.take_of_length_le (by rw [List.length_drop, HLn.out]; decide)] at h
              rw [h]; exact beq_self_eq_true _⟩
            have HDq : Kp (decB b = okN zs) := ⟨by rw [HDb.out.1, HZ29.out, Bool.true_and]⟩
            have HCl2 : Kp _ := ⟨HCl.out wr⟩
            clear HZs HZ29 hkj hj
            go_wp2_with (refine wpList_loadAll rwNd rfl _ rfl rfl HK10.out HLc.out ?_)
            refine HCl2.out.mono ?_
            rintro e w9 ⟨rfl, hb9⟩
            have HR9 : Kp _ := ⟨HRr.out.below hb9 HRr.out.lt⟩
            have HK9 : Kp _ := ⟨HK10.out.below hb9 HK10.out.lt⟩
            have HB9 : Kp (Below B0 w w9) := ⟨HBr.out.trans (hb9.mono (Nat.le_trans HB0e.out HBr.out.size))⟩
            clear hb9 HCl2 HCl
            cases hok : okN zs with
            | false =>
              have HE : Kp _ := ⟨HBad.out (by rw [HDq.out]; exact hok)⟩
              go_wp2_with (first | refine wpList_build0 rfl rfl built_zero ?_ | refine wpList_storeAll rwNd rfl _ _ rfl rfl HR9.out (n := 10) rfl (vs := cellsZ zero10) rfl (cellsZ_one _) rfl ?_)
              intro w10 hk10 ho10
              have HR10 : Kp _ := ⟨hk10⟩
              have HB10 : Kp (Below B0 w w10) := ⟨HB9.out.trans (ho10.below HRB.out)⟩
              clear hk10 ho10
              go_wp2
              refine ret_two rfl rwNd rfl rfl HR10.out rfl rfl ?_
              exact ⟨by rw [HE.out.1, HE.out.2]; rfl, HBe.out ▸ HB10.out⟩
            | true =>
              have HE : Kp (decA b = zs ∧ decE b = 0) := ⟨by rw [HDb.out.2.1, HDb.out.2.2, HDq.out, hok]; exact ⟨rfl, rfl⟩⟩
              go_wp2_with (first | refine wpList_loadAll rwNd rfl _ rfl rfl HK9.out HLc.out ?_ | refine wpList_storeAll rwNd rfl _ _ rfl rfl HR9.out (n := 10) rfl (vs := cellsZ zs) HLc.out (cellsZ_one _) rfl ?_)
              intro w10 hk10 ho10
              have HR10 : Kp _ := ⟨hk10⟩
              have HB10 : Kp (Below B0 w w10) := ⟨HB9.out.trans (ho10.below HRB.out)⟩
              clear hk10 ho10
              go_wp2
              refine ret_two rfl rwNd rfl rfl HR10.out HLc.out rfl ?_
              exact ⟨by rw [HE.out.1, HE.out.2]; rfl, HBe.out ▸ HB10.out⟩
          | succ g2 =>
            have hgo : (k : Int) < 64 := by omega
            have hk : k < 64 := by omega
            have hkl : k < b.length := by rw [HLn.out]; exact hk
            obtain ⟨bb, oo, rfl, _, hc⟩ := HBb.out.cell hk
            obtain ⟨x, hx⟩ : ∃ x, x = b[k] := ⟨_, rfl⟩
            rw [← hx] at hc
            have hxs : b[35 + j]? = some x := by rw [← hkj, List.getElem?_eq_getElem hkl, hx]
            have HStp : Kp _ := ⟨fun h => zeros_step b j x hxs HZs.out h⟩
            have HNo : Kp (x ≠ 0 → decB b = false) := ⟨fun h => by rw [HDb.out.1, zeros_no b j x hxs (by omega) h]; rfl⟩
            have HKj : Kp (k = 35 + j) := ⟨hkj⟩
            clear hx hxs hkl hkj
            by_cases h0 : x = 0
            · subst h0
              have hc0 : ((0 : UInt8).toNat : Int) = 0 := rfl
              rw [hc0] at hc
              have HZ2 : Kp _ := ⟨HStp.out rfl⟩
              clear HStp
              go_wp2
              go_roundg g2
              case measure => omega
              case rel => exact ⟨k + 1, j + 1, by omega, by have := HKj.out; omega, by go_num, HZ2, rfl⟩
            · have hx0 : ¬ ((x.toNat : Int) = 0) := fun e => h0 (UInt8.toNat_inj.1 (by show x.toNat = 0; omega))
              have HE : Kp _ := ⟨HBad.out (HNo.out h0)⟩
              clear h0
              go_wp2_with (first | refine wpList_build0 rfl rfl built_zero ?_ | refine wpList_storeAll rwNd rfl _ _ rfl rfl HRr.out (n := 10) rfl (vs := cellsZ zero10) rfl (cellsZ_one _) rfl ?_)
              intro w10 hk10 ho10
              have HR10 : Kp _ := ⟨hk10⟩
              have HB10 : Kp (Below B0 w w10) := ⟨HBr.out.trans (ho10.below HRB.out)⟩
              clear hk10 ho10
              go_wp2
              refine ret_two rfl rwNd rfl rfl HR10.out rfl rfl ?_
              exact ⟨by rw [HE.out.1, HE.out.2]; rfl, HBe.out ▸ HB10.out⟩
  · have hn' : ¬ ((n : Int) = 64) := by omega
    have HE : Kp (decA b = zero10 ∧ decE b = 4) := ⟨by
      have h1 : decB b = false := by unfold decB; rw [decide_eq_false (by rw [HLn.out]; exact hn)]; rfl
      unfold decA decE
      rw [h1]
      exact ⟨rfl, rfl⟩⟩
    go_wp2_with (first | refine wpList_build0 rfl rfl built_zero ?_ | refine wpList_storeAll rwNd rfl _ _ rfl rfl HR1.out (n := 10) rfl (vs := cellsZ zero10) rfl (cellsZ_one _) rfl ?_)
    intro w7 hk7 ho7
    have HR7 : Kp _ := ⟨hk7⟩
    have HB7 : Kp (Below B0 w w7) := ⟨HB1.out.trans (ho7.below HRB.out)⟩
    clear hk7 ho7
    go_wp2
    refine ret_two rfl rwNd rfl rfl HR7.out rfl rfl ?_
    exact ⟨by rw [HE.out.1, HE.out.2]; rfl, HBe.out ▸ HB7.out⟩
end
end Go.Proofs.Ytmiobgongddaiaa
