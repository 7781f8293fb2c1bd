/-  -/
import Derived.Test.YtcehkafddlfleaaGreatDoorG02
import Derived.Test.YtcehkafddlfleaaGreatDoorG08
import Derived.Test.YtcehkafddlfleaaGreatDoorG01
import Derived.Deep.LoopGhost
import Derived.Deep.RegionHeld3
import Derived.WalkMore
namespace Go.Proofs.YtcehkafddlfleaaGreatDoor
open Go.RowKit
def hashCells (s : ShSt) (buf : List UInt8) (n : Nat) : List Value := cells32 s.list ++ cells8 buf ++ [.int .u64 (n : Int)]
structure HG (w : World) (g : Nat) (M : List UInt8) (buf : List UInt8) : Prop where
 blk : Blk w g 320 (hashCells (foldB M (M.length / 64)) buf M.length)
 len : buf.length = 64
 buf : buf.take (M.length % 64) = M.drop (64 * (M.length / 64))
structure HashIs (w : World) (g : Nat) (M : List UInt8) : Prop where
 is : ∃ st buf, Blk w g 320 (hashCells st buf M.length) ∧ buf.length = 64 ∧ (0 < M.length → st = foldB M (M.length / 64)) ∧ buf.take (M.length % 64) = M.drop (64 * (M.length / 64))
theorem foldB_prefix (M X : List UInt8) (k : Nat) (h : 64 * k ≤ M.length) : foldB (M ++ X) k = foldB M k := by
 induction k with
 | zero => rfl
 | succ k ih =>
  unfold foldB
  rw [ih (by omega), List.take_append_of_le_length (by omega)]
theorem hashCells_length (s : ShSt) (buf : List UInt8) (n : Nat) (h : buf.length = 64) : (hashCells s buf n).length = 73 := by
 simp [hashCells, cells32_length, cells8_length, h, ShSt.list]
theorem hash_size_at (s : ShSt) (buf : List UInt8) (n : Nat) (h : buf.length = 64) : (hashCells s buf n)[72]? = some (.int .u64 (n : Int)) := by
 unfold hashCells
 rw [List.getElem?_append_right (by rw [List.length_append, cells32_length, cells8_length, h]; simp [ShSt.list])]
 rw [List.length_append, cells32_length, cells8_length, h]
 rfl
theorem hash_size (s : ShSt) (buf : List UInt8) (n n' : Nat) (h : buf.length = 64) : (hashCells s buf n).set 72 (.int .u64 (n' : Int)) = hashCells s buf n' := by
 unfold hashCells
 have hl : (cells32 s.list ++ cells8 buf).length = 72 := by rw [List.length_append, cells32_length, cells8_length, h]; rfl
 rw [List.set_append_right _ _ (by omega), hl]
 rfl
theorem hash_copy (s : ShSt) (buf X : List UInt8) (n r : Nat) (h : buf.length = 64) (hr : r + X.length ≤ 64) :
  (hashCells s buf n).take (8 + r) ++ (cells8 X ++ (hashCells s buf n).drop (8 + r + X.length)) = hashCells s (buf.take r ++ X ++ buf.drop (r + X.length)) n := by
 unfold hashCells
 have h8 : (cells32 s.list).length = 8 := rfl
 have hb : (cells8 buf).length = 64 := by rw [cells8_length, h]
 rw [List.append_assoc, List.take_append, List.drop_append, h8]
 rw [List.take_of_length_le (by omega), List.drop_of_length_le (by omega), List.nil_append]
 rw [show 8 + r - 8 = r by omega, show 8 + r + X.length - 8 = r + X.length by omega]
 rw [List.take_append_of_le_length (by omega), List.drop_append_of_le_length (by omega)]
 simp only [cells8, List.map_append, List.map_take, List.map_drop, List.append_assoc]
theorem hash_state (s s' : ShSt) (buf : List UInt8) (n : Nat) : cells32 s'.list ++ (hashCells s buf n).drop 8 = hashCells s' buf n := by
 unfold hashCells
 have h8 : (cells32 s.list).length = 8 := rfl
 rw [List.append_assoc, List.drop_append, h8, List.drop_of_length_le (by omega)]
 simp
theorem hash_state_at (s : ShSt) (buf : List UInt8) (n : Nat) : ((hashCells s buf n).drop 0).take 8 = cells32 s.list := by
 unfold hashCells
 have h8 : (cells32 s.list).length = 8 := rfl
 rw [List.drop_zero, List.append_assoc, List.take_append, h8, List.take_of_length_le (by omega)]
 simp
theorem hash_buf_at (s : ShSt) (buf : List UInt8) (n : Nat) (h : buf.length = 64) : ((hashCells s buf n).drop 8).take 64 = cells8 buf := by
 unfold hashCells
 have h8 : (cells32 s.list).length = 8 := rfl
 have hb : (cells8 buf).length = 64 := by rw [cells8_length, h]
 rw [List.append_assoc, List.drop_append, h8, List.drop_of_length_le (by omega), List.nil_append, show 8 - 8 = 0 from rfl, List.drop_zero, List.take_append, hb, List.take_of_length_le (by omega)]
 simp
theorem fold_full (M R buf : List UInt8) (nn : Nat) (hb : buf.length = 64) (hbuf : buf.take (M.length % 64) = M.drop (64 * (M.length / 64))) (h1 : nn ≤ R.length) (h2 : nn = 64 - M.length % 64) :
  foldB (M ++ R.take nn) ((M.length + nn) / 64) = stepS (foldB M (M.length / 64)) (buf.take (M.length % 64) ++ R.take nn ++ buf.drop (M.length % 64 + nn)) := by
 rw [show (M.length + nn) / 64 = M.length / 64 + 1 by omega]
 show stepS (foldB (M ++ R.take nn) (M.length / 64)) _ = _
 rw [foldB_prefix _ _ _ (by omega), List.drop_of_length_le (l := buf) (by omega), List.append_nil, hbuf]
 congr 1
 rw [List.take_of_length_le (by simp; omega), List.drop_append_of_le_length (by omega)]
theorem fold_part (M R : List UInt8) (nn : Nat) (h2 : M.length % 64 + nn < 64) :
  foldB (M ++ R.take nn) ((M.length + nn) / 64) = foldB M (M.length / 64) := by
 rw [show (M.length + nn) / 64 = M.length / 64 by omega, foldB_prefix _ _ _ (by omega)]
theorem hg_part {w : World} {g : Nat} {M R buf : List UInt8} {nn : Nat} (hk : Blk w g 320 (hashCells (foldB M (M.length / 64)) (buf.take (M.length % 64) ++ R.take nn ++ buf.drop (M.length % 64 + nn)) (M.length + nn))) (hb : (buf.take (M.length % 64) ++ R.take nn ++ buf.drop (M.length % 64 + nn)).length = 64) (hl : buf.length = 64)
  (hbuf : buf.take (M.length % 64) = M.drop (64 * (M.length / 64))) (h1 : nn ≤ R.length) (h2 : M.length % 64 + nn < 64) : HG w g (M ++ R.take nn) (buf.take (M.length % 64) ++ R.take nn ++ buf.drop (M.length % 64 + nn)) := by
 have e : (M ++ R.take nn).length = M.length + nn := by simp; omega
 refine ⟨by rw [e, fold_part M R nn h2]; exact hk, hb, ?_⟩
 rw [e, show (M.length + nn) % 64 = M.length % 64 + nn by omega, show (M.length + nn) / 64 = M.length / 64 by omega, List.drop_append_of_le_length (by omega), ← hbuf]
 rw [List.take_append_of_le_length (by simp; omega), List.take_of_length_le (by simp; omega)]
theorem hg_full {w : World} {g : Nat} {M R buf : List UInt8} {nn : Nat} (hk : Blk w g 320 (hashCells (stepS (foldB M (M.length / 64)) (buf.take (M.length % 64) ++ R.take nn ++ buf.drop (M.length % 64 + nn))) (buf.take (M.length % 64) ++ R.take nn ++ buf.drop (M.length % 64 + nn)) (M.length + nn))) (hb : (buf.take (M.length % 64) ++ R.take nn ++ buf.drop (M.length % 64 + nn)).length = 64) (hl : buf.length = 64)
  (hbuf : buf.take (M.length % 64) = M.drop (64 * (M.length / 64))) (h1 : nn ≤ R.length) (h2 : nn = 64 - M.length % 64) : HG w g (M ++ R.take nn) (buf.take (M.length % 64) ++ R.take nn ++ buf.drop (M.length % 64 + nn)) := by
 have e : (M ++ R.take nn).length = M.length + nn := by simp; omega
 refine ⟨by rw [e, fold_full M R buf nn hl hbuf h1 h2]; exact hk, hb, ?_⟩
 rw [e, show (M.length + nn) % 64 = 0 by omega, List.take_zero, List.drop_of_length_le (by rw [e]; omega)]
theorem full_rel {w : World} {g m r nn : Nat} {M R buf buf6 : List UInt8} {st6 : ShSt} (hk : Blk w g 320 (hashCells (stepS st6 buf6) buf6 (m + nn))) (hBB : buf.take r ++ R.take nn ++ buf.drop (r + nn) = buf6) (hb : buf6.length = 64) (hl : buf.length = 64) (hbuf : buf.take r = M.drop (64 * (m / 64)))
  (hst : foldB M (m / 64) = st6) (hm : m = M.length) (hr : r = m % 64) (h1 : nn ≤ R.length) (h2 : nn = 64 - r) : HG w g (M ++ R.take nn) buf6 := by
 subst hm hr hst hBB
 exact hg_full hk hb hl hbuf h1 h2
theorem block_slice (g r : Nat) (hr : r < 64) (W : World) : (Instr.sliceAt 318 (.pointer (some ⟨g, 8, none⟩)) (some (.int .u64 (r : Int))) none none).run Tryz.prog W = .ok (.slice (some ⟨g, 8 + r, none⟩) (64 - r) (64 - r)) W := by
 have h1 : (Tryz.prog).underlying 318 = some (.array ((Tryz.prog).arrayLen 318) ((Tryz.prog).elem 318)) := by kernel_rfl
 have h2 : (Tryz.prog).arrayLen 318 = 64 := by kernel_rfl
 have h3 : (Tryz.prog).elem 318 = 5 := by kernel_rfl
 have h4 : ((Tryz.prog).info? 5).map (·.size) = some 1 := by kernel_rfl
 rw [run_sliceAt_array_l W _ ⟨g, 8, none⟩ h1 .u64 (r : Int) (by omega) (by rw [h2]; omega), h2, h3]
 cases hq : (Tryz.prog).info? 5 with
 | none => simp [hq] at h4
 | some i =>
  have hs : i.size = 1 := by simpa [hq] using h4
  simp [Go.sizeOf, typeInfo, hq, hs, slicedAt, show ¬ 64 = r by omega, Addr.add]
set_option maxRecDepth 100000 in
set_option maxHeartbeats 4000000 in
theorem tell_any (g : Nat) (M : List UInt8) (A : Option Addr) (n c : Nat) (ls : List (List UInt8)) (w : World) (hh : HashIs w g M)
  (hl : LsA w g A n c ls) (hn : M.length + ls.flatten.length ≤ 1048576) :
  Calls Tryz.prog 216 #[.pointer (some ⟨g, 0, none⟩), .slice A n c] w fun e w' => e = .returned (.tuple #[]) ∧ (∃ buf, HG w' g (M ++ ls.flatten) buf) ∧ w.grownBy w' (some g) := by
 obtain ⟨st, buf, hblk, hbl, hst, hbuf⟩ := hh.is
 have HB : Kp _ := ⟨hblk⟩
 have HBL : Kp _ := ⟨hbl⟩
 have HST : Kp _ := ⟨hst⟩
 have HBuf : Kp _ := ⟨hbuf⟩
 have HLs : Kp _ := ⟨hl⟩
 have HN : Kp _ := ⟨hn⟩
 have hc72 : w.cell? ⟨g, 72, none⟩ = some (.int .u64 (M.length : Int)) := by rw [hblk.cell? 72]; exact hash_size_at _ _ _ hbl
 have hnle := hl.le
 have hm20 : (M.length : Int) ≤ 1048576 := by omega
 clear hblk hbl hst hbuf hl hh hn
 by_cases hM : M.length = 0
 ·have hM1 : ((M.length : Int) == 0) = true := by rw [beq_iff_eq]; omega
  have HM0 : Kp (M = []) := ⟨List.eq_nil_of_length_eq_zero hM⟩
  have H80 : Kp (0 + 8 ≤ (hashCells st buf M.length).length) := ⟨by rw [hashCells_length _ _ _ HBL.out]; omega⟩
  have HS8 : Kp ((cells32 St0.list).length = 8) := ⟨rfl⟩
  clear hM
  go_enter Tryz.func216, Tryz.ntmps216
  go_wp2
  go_step3
  go_wp2_with fail
  refine (start_any _).mono ?_
  rintro e w4 ⟨rfl, hb4⟩
  have HK4 : Kp _ := ⟨HB.out.below hb4 HB.out.lt⟩
  go_wp2_with (with_reducible refine wpList_store (o := ⟨none, _, _, _, _, _⟩) (vs := cells32 St0.list) rwSt rfl (.tmp 15) (.tmp 13) rfl rfl rfl HK4.out HS8.out H80.out (cells32_one _) ?_)
  intro w5 hk5 ho5
  have HG0 : Kp (∃ buf, HG w5 g M buf) := ⟨buf, ⟨by
   have e := hash_state st (foldB M (M.length / 64)) buf M.length
   have e0 : foldB M (M.length / 64) = St0 := by rw [HM0.out]; rfl
   rw [e0] at e
   rw [e0, ← e]
   exact hk5, HBL.out, HBuf.out⟩⟩
  have hgr : w.grownBy w5 (some g) := grown_trans (grown_below hb4 _) (grown_only ho5)
  clear hk5 ho5 HK4 hb4 H80 HS8 HM0
  go_wp2
  go_step3
  go_wp2
  clear HB HBL HST HBuf hc72 hm20
  go_loopg [18] n (fun gk v18 wr => ∃ i : Nat, i + gk = n ∧ v18 = .int .i64 i ∧ Kp (∃ buf, HG wr g (M ++ (ls.take i).flatten) buf) ∧ w.grownBy wr (some g))
  case atStart => exact ⟨0, by omega, rfl, by simpa using HG0, hgr⟩
  case round =>
   obtain ⟨i, hig, rfl, HGi, hgi⟩ := hrel
   rename_i g1
   cases gk with
   | zero =>
    have hlt : ¬ ((i : Int) < (n : Int)) := by omega
    have HE : Kp (M ++ (ls.take i).flatten = M ++ ls.flatten) := ⟨by rw [List.take_of_length_le (by rw [HLs.out.len]; omega)]⟩
    go_wp2
    try rw [Exit.noGoto_ret]
    go_end0
    refine ⟨rfl, ?_, hgi⟩
    rw [← HE.out]
    exact HGi.out
   | succ g2 =>
    have hli : i < ls.length := by rw [HLs.out.len]; omega
    have hlt : (i : Int) < (n : Int) := by omega
    obtain ⟨b, o, A', n', c', rfl, _, hcell, hbs⟩ := (HLs.out.grown hgi).at (i := i) (by omega)
    have HNext : Kp _ := ⟨take_flat ls i hli⟩
    have HTot : Kp (M.length + (ls.take (i + 1)).flatten.length ≤ 1048576) := ⟨by have := HN.out; have := take_flat_le ls (i + 1); omega⟩
    generalize ls[i] = P at *
    have HBs : Kp _ := ⟨hbs⟩
    have HPn : Kp (P.length = n') := ⟨hbs.bs.len⟩
    clear hbs
    go_wp2
    go_loopg [5] n' (fun g3 v5 wx => ∃ (R M' : List UInt8) (A2 : Option Addr) (m2 c2 : Nat), m2 ≤ g3 ∧ v5 = .slice A2 m2 c2 ∧ Kp (BsA wx g A2 m2 c2 R) ∧ Kp (∃ buf, HG wx g M' buf) ∧ w.grownBy wx (some g) ∧ Kp (M' ++ R = M ++ (ls.take i).flatten ++ P))
    case atStart => exact ⟨P, M ++ (ls.take i).flatten, A', n', c', Nat.le_refl _, rfl, HBs, HGi, hgi, ⟨rfl⟩⟩
    case round =>
     clear hcell HBs HGi hgi
     obtain ⟨R, M', A2, m2, c2, hm2, rfl, HR, HGx, hgx, HMR⟩ := hrel
     obtain ⟨buf, hg⟩ := HGx.out
     have HRm : Kp (R.length = m2) := ⟨HR.out.bs.len⟩
     have HK : Kp _ := ⟨hg.blk⟩
     have HBL : Kp _ := ⟨hg.len⟩
     have HBuf : Kp _ := ⟨hg.buf⟩
     have hM' : M'.length + m2 ≤ 1048576 := by
      have h1 := congrArg List.length HMR.out
      have h2 := HTot.out
      rw [HNext.out] at h2
      simp only [List.length_append] at h1 h2
      have := HRm.out
      omega
     have hc72 : wr.cell? ⟨g, 72, none⟩ = some (.int .u64 (M'.length : Int)) := by rw [hg.blk.cell? 72]; exact hash_size_at _ _ _ hg.len
     have hf72 := hg.blk.frozen 72
     clear hg HGx
     obtain ⟨m, hm⟩ : ∃ m, m = M'.length := ⟨_, rfl⟩
     obtain ⟨r, hr⟩ : ∃ r, r = m % 64 := ⟨_, rfl⟩
     rw [← hm] at hc72 hM' HK HBuf
     rw [← hr] at HBuf
     have hri : (m : Int) % 64 = (r : Int) := by omega
     have hrt : (m : Int).tmod 64 = (r : Int) := by rw [Int.tmod_eq_emod_of_nonneg (by omega)]; exact hri
     have hr64 : (r : Int) < 64 := by omega
     have hmi : (m : Int) ≤ 1048576 := by omega
     have HM : Kp _ := ⟨hm⟩
     have HRr : Kp _ := ⟨hr⟩
     have hsl := block_slice g r (by omega)
     clear hm hr
     go_wp2_with fail
     go_still_tail 10, (by kernel_rfl)
     change wpList _ _ _ _ _ wr.drew
     have HKd : Kp _ := ⟨HK.out.drew⟩
     have HLen : Kp (8 + r + (64 - r) ≤ (hashCells (foldB M' (m / 64)) buf m).length) := ⟨by rw [hashCells_length _ _ _ HBL.out]; omega⟩
     have HRd : Kp _ := ⟨HR.out.bs.drew⟩
     clear hsl hrt hc72 hf72 HK
     go_wp2_with (with_reducible refine wpList_copyBlk (o := ⟨some 32, _, _, _, _, _⟩) el8 rfl (.tmp 30) (.tmp 31) rfl rfl HKd.out HLen.out rfl HRd.out ?_)
     intro w5 hk5 ho5
     obtain ⟨nn, hnn⟩ : ∃ nn, nn = min m2 (64 - r) := ⟨_, rfl⟩
     have HX : Kp ((R.take (64 - r)).length = nn) := ⟨by rw [List.length_take, HRm.out, hnn]; omega⟩
     have HX2 : Kp (R.take (64 - r) = R.take nn) := ⟨by
      rcases Nat.le_total m2 (64 - r) with h | h
      ·rw [hnn, Nat.min_eq_left h, List.take_of_length_le (by rw [HRm.out]; exact h), List.take_of_length_le (by rw [HRm.out]; omega)]
      ·rw [hnn, Nat.min_eq_right h]⟩
     rw [← hnn] at hk5 ⊢
     have hn1 : nn ≤ m2 := by omega
     have hn2 : nn ≤ 64 - r := by omega
     have hn3 : nn = m2 ∨ nn = 64 - r := by omega
     have HK5 : Kp (Blk w5 g 320 (hashCells (foldB M' (m / 64)) (buf.take r ++ R.take nn ++ buf.drop (r + nn)) m)) := ⟨by
      have e := hash_copy (foldB M' (m / 64)) buf (R.take nn) m r HBL.out (by rw [← HX2.out, HX.out]; omega)
      rw [← HX2.out, HX.out] at e
      rw [← HX2.out, ← e]; exact hk5⟩
     have hbl5 : (buf.take r ++ R.take nn ++ buf.drop (r + nn)).length = 64 := by
      simp only [List.length_append, List.length_take, List.length_drop, HBL.out, HRm.out]; omega
     have HBL5 : Kp _ := ⟨hbl5⟩
     have HR5 : Kp (BsA w5 g A2 m2 c2 R) := ⟨HR.out.grown (grown_trans (grown_drew wr _) (grown_only ho5))⟩
     have hgx5 : w.grownBy w5 (some g) := grown_trans hgx (grown_trans (grown_drew wr _) (grown_only ho5))
     have c72 : w5.cell? ⟨g, 72, none⟩ = some (.int .u64 (m : Int)) := by rw [HK5.out.cell? 72]; exact hash_size_at _ _ _ hbl5
     have f72 := HK5.out.frozen 72
     have hnn64 : (nn : Int) ≤ 64 := by omega
     clear hk5 ho5 HKd HRd HLen HX HX2 HR hgx hnn hbl5
     have hcase : nn = 0 ∨ (0 < nn ∧ (m + nn) % 64 ≠ 0) ∨ (0 < nn ∧ (m + nn) % 64 = 0) := by omega
     rcases hcase with h0 | ⟨h0, h64⟩ | ⟨h0, h64⟩
     ·have hb1 : ((nn : Int) == 0) = true := by rw [beq_iff_eq]; omega
      have HZ : Kp _ := ⟨h0⟩
      clear h0
      go_wp2_with (with_reducible refine wpList_cut_lA (o := ⟨some 44, _, _, _, _, _⟩) el8 rfl (.tmp 42) (.tmp 43) rfl rfl (HR5.out.grown (grown_set w5 g 72 _)) _ _ nn rfl rfl hn1 ?_)
      intro A6 d6 hbs6
      clear hbs6
      go_wp2
      go_roundg g2
      case measure => omega
      case rel =>
       have hm0 : m2 = 0 := by have := HZ.out; omega
       have hR0 : R = [] := List.eq_nil_of_length_eq_zero (by rw [HRm.out, hm0])
       have hk6 := HK5.out.set 72 (.int .u64 (((m + nn : Nat) : Int)))
       rw [hash_size _ _ m (m + nn) HBL5.out, show ((m + nn : Nat) : Int) = (m : Int) + (nn : Int) by omega] at hk6
       have hbl6 := HBL5.out
       have hbuf := HBuf.out
       have hHM := HM.out
       have hHR := HRr.out
       subst hHM
       subst hHR
       have hh := hg_part hk6 hbl6 HBL.out hbuf (by rw [HRm.out]; exact hn1) (by have := HZ.out; omega)
       refine ⟨i + 1, by omega, by go_num, ⟨buf.take (M'.length % 64) ++ R.take nn ++ buf.drop (M'.length % 64 + nn), ?_⟩, grown_trans hgx5 (grown_set w5 g 72 _)⟩
       rw [HNext.out, ← List.append_assoc, ← HMR.out]
       have e : R.take nn = R := by rw [hR0]; simp
       rw [e] at hh ⊢
       exact hh
     ·have hb1 : ((nn : Int) == 0) = false := by rw [beq_eq_false_iff_ne]; omega
      have hb2 : (((m : Int) + (nn : Int)) % 64 == 0) = false := by rw [beq_eq_false_iff_ne]; omega
      have hb3 : (((m : Int) + (nn : Int)) % 64 != 0) = true := by simp only [bne, hb2]; rfl
      have HZ : Kp _ := ⟨h64⟩
      clear h64
      go_wp2_with (with_reducible refine wpList_cut_lA (o := ⟨some 44, _, _, _, _, _⟩) el8 rfl (.tmp 42) (.tmp 43) rfl rfl (HR5.out.grown (grown_set w5 g 72 _)) _ _ nn rfl rfl hn1 ?_)
      intro A6 d6 hbs6
      clear hbs6
      go_wp2
      go_roundg g2
      case measure => omega
      case rel =>
       have hr6 : r < 64 := by omega
       have hm2n : nn = m2 := by
        rcases hn3 with h | h
        ·exact h
        ·exfalso; apply HZ.out; have := HRr.out; omega
       have hk6 := HK5.out.set 72 (.int .u64 (((m + nn : Nat) : Int)))
       rw [hash_size _ _ m (m + nn) HBL5.out, show ((m + nn : Nat) : Int) = (m : Int) + (nn : Int) by omega] at hk6
       have hbl6 := HBL5.out
       have hbuf := HBuf.out
       have hHM := HM.out
       have hHR := HRr.out
       have hZ := HZ.out
       subst hHM
       subst hHR
       have hh := hg_part hk6 hbl6 HBL.out hbuf (by rw [HRm.out]; exact hn1) (by omega)
       refine ⟨i + 1, by omega, by go_num, ⟨buf.take (M'.length % 64) ++ R.take nn ++ buf.drop (M'.length % 64 + nn), ?_⟩, grown_trans hgx5 (grown_set w5 g 72 _)⟩
       rw [HNext.out, ← List.append_assoc, ← HMR.out]
       have e : R.take nn = R := by rw [List.take_of_length_le (by rw [HRm.out, hm2n]; exact Nat.le_refl _)]
       rw [e] at hh ⊢
       exact hh
     ·have hb1 : ((nn : Int) == 0) = false := by rw [beq_eq_false_iff_ne]; omega
      have hb2 : (((m : Int) + (nn : Int)) % 64 == 0) = true := by rw [beq_iff_eq]; omega
      have hb3 : (((m : Int) + (nn : Int)) % 64 != 0) = false := by simp only [bne, hb2]; rfl
      have HZ : Kp _ := ⟨h64⟩
      clear h64
      go_wp2_with (with_reducible refine wpList_cut_lA (o := ⟨some 44, _, _, _, _, _⟩) el8 rfl (.tmp 42) (.tmp 43) rfl rfl (HR5.out.grown (grown_set w5 g 72 _)) _ _ nn rfl rfl hn1 ?_)
      intro A6 d6 hbs6
      go_wp2_with fail
      have HK6 : Kp (Blk (w5.setCell ⟨g, 72, none⟩ (.int .u64 ((m : Int) + (nn : Int)))) g 320 (hashCells (foldB M' (m / 64)) (buf.take r ++ R.take nn ++ buf.drop (r + nn)) (m + nn))) := ⟨by
       have h3 := HK5.out.set 72 (.int .u64 (((m + nn : Nat) : Int)))
       rw [hash_size _ _ m (m + nn) HBL5.out, show ((m + nn : Nat) : Int) = (m : Int) + (nn : Int) by omega] at h3
       exact h3⟩
      have HR6 : Kp _ := ⟨hbs6⟩
      have hg6 := grown_trans hgx5 (grown_set w5 g 72 (.int .u64 ((m : Int) + (nn : Int))))
      clear hbs6 HK5 HR5 hgx5 c72 f72
      generalize w5.setCell ⟨g, 72, none⟩ (.int .u64 ((m : Int) + (nn : Int))) = w6 at *
      generalize hBB : buf.take r ++ R.take nn ++ buf.drop (r + nn) = buf6 at *
      have HBB : Kp _ := ⟨hBB⟩
      have H8 : Kp (0 + 8 ≤ (hashCells (foldB M' (m / 64)) buf6 (m + nn)).length) := ⟨by rw [hashCells_length _ _ _ HBL5.out]; omega⟩
      have H64 : Kp (8 + 64 ≤ (hashCells (foldB M' (m / 64)) buf6 (m + nn)).length) := ⟨by rw [hashCells_length _ _ _ HBL5.out]; omega⟩
      have HVS : Kp _ := ⟨hash_state_at (foldB M' (m / 64)) buf6 (m + nn)⟩
      have HVB : Kp _ := ⟨hash_buf_at (foldB M' (m / 64)) buf6 (m + nn) HBL5.out⟩
      have HN8 : Kp ((cells32 (stepS (foldB M' (m / 64)) buf6).list).length = 8) := ⟨rfl⟩
      have HK6d : Kp _ := ⟨HK6.out.drew⟩
      clear hBB
      generalize hst6 : foldB M' (m / 64) = st6 at *
      have HST6 : Kp _ := ⟨hst6⟩
      clear hst6
      refine wp_region_any (by kernel_rfl) ?_
      change wpAny _ _ _ _ _ _ _ w6.drew
      refine wT 0 55 ?_ rfl ?_
      try simp only [Act.put, sA, sB, sC]
      refine wT 1 56 ?_ rfl ?_
      try simp only [Act.put, sA, sB, sC]
      refine wT 2 57 ?_ rfl ?_
      try simp only [Act.put, sA, sB, sC]
      refine wT 3 58 ?_ rfl ?_
      try simp only [Act.put, sA, sB, sC]
      refine wT 5 60 ?_ rfl ?_
      try simp only [Act.put, sA, sB, sC]
      refine wT 6 61 ?_ rfl ?_
      try simp only [Act.put, sA, sB, sC]
      refine wT 7 62 ?_ rfl ?_
      try simp only [Act.put, sA, sB, sC]
      refine rK [4, 8] ?_
      refine aS 59 63 rfl rfl (fun K hK => ?_) fun K hK => ?_
      ·refine step_load rwSt rfl (.tmp 58) rfl rfl HK6d.out H8.out HVS.out ?_
       refine hK _ _ ?_
       clear hK K
       try simp only [Act.put, sA, sB, sC]
       refine rK [8] ?_
       refine aR 63 rfl fun K hK => ?_
       refine step_load rwBlock rfl (.tmp 62) rfl rfl HK6d.out H64.out HVB.out ?_
       refine hK _ _ ?_
       clear hK K
       try simp only [Act.put, sA, sB, sC]
       refine rK [9] ?_
       refine aR 64 rfl fun K hK => ?_
       go_simp
       refine (compress_any _ _ _ HBL5.out).mono ?_
       rintro e w7 ⟨rfl, hb7⟩
       refine hK _ _ ?_
       clear hK K
       try simp only [Act.put, sA, sB, sC]
       have HK7 : Kp (Blk w7 g 320 (hashCells st6 buf6 (m + nn))) := ⟨⟨(hb7.block g HK6.out.lt).trans HK6.out.heap⟩⟩
       have hg7 : w.grownBy w7 (some g) := grown_trans hg6 (grown_trans (grown_drew w6 _) (grown_below hb7 _))
       have HR7 : Kp _ := ⟨HR6.out.grown (grown_trans (grown_drew w6 _) (grown_below hb7 (some g)))⟩
       refine wT 10 65 ?_ rfl ?_
       try simp only [Act.put, sA, sB, sC]
       refine wT 11 66 ?_ rfl ?_
       try simp only [Act.put, sA, sB, sC]
       refine rK [12] ?_
       refine AllReady.cons (o := ⟨none, _, _, _, _, _⟩) rfl (fun K hK => ?_) AllReady.nil
       refine step_store rwSt rfl (.tmp 66) (.tmp 64) rfl rfl rfl HK7.out HN8.out H8.out (cells32_one _) ?_
       intro w8 hk8 ho8
       refine hK _ _ ?_
       clear hK K
       simp only [Act.put]
       refine wpAny_done (by kernel_rfl) ?_ _
       go_wp2
       go_roundg (m2 - nn)
       case measure => omega
       case rel =>
        refine ⟨R.drop nn, M' ++ R.take nn, A6, m2 - nn, d6, Nat.le_refl _, rfl, ⟨HR7.out.grown (grown_only ho8)⟩, ⟨buf6, ?_⟩, grown_trans hg7 (grown_only ho8), ⟨by rw [List.append_assoc, List.take_append_drop]; exact HMR.out⟩⟩
        have hk9 : Blk w8 g 320 (hashCells (stepS st6 buf6) buf6 (m + nn)) := by
         have e := hash_state st6 (stepS st6 buf6) buf6 (m + nn)
         rw [← e]
         exact hk8
        exact full_rel hk9 HBB.out HBL5.out HBL.out HBuf.out HST6.out HM.out HRr.out (by rw [HRm.out]; exact hn1) (by have := HZ.out; omega)
      ·refine step_load rwBlock rfl (.tmp 62) rfl rfl HK6d.out H64.out HVB.out ?_
       refine hK _ _ ?_
       clear hK K
       try simp only [Act.put, sA, sB, sC]
       refine rK [4] ?_
       refine aR 59 rfl fun K hK => ?_
       refine step_load rwSt rfl (.tmp 58) rfl rfl HK6d.out H8.out HVS.out ?_
       refine hK _ _ ?_
       clear hK K
       try simp only [Act.put, sA, sB, sC]
       refine rK [9] ?_
       refine aR 64 rfl fun K hK => ?_
       go_simp
       refine (compress_any _ _ _ HBL5.out).mono ?_
       rintro e w7 ⟨rfl, hb7⟩
       refine hK _ _ ?_
       clear hK K
       try simp only [Act.put, sA, sB, sC]
       have HK7 : Kp (Blk w7 g 320 (hashCells st6 buf6 (m + nn))) := ⟨⟨(hb7.block g HK6.out.lt).trans HK6.out.heap⟩⟩
       have hg7 : w.grownBy w7 (some g) := grown_trans hg6 (grown_trans (grown_drew w6 _) (grown_below hb7 _))
       have HR7 : Kp _ := ⟨HR6.out.grown (grown_trans (grown_drew w6 _) (grown_below hb7 (some g)))⟩
       refine wT 10 65 ?_ rfl ?_
       try simp only [Act.put, sA, sB, sC]
       refine wT 11 66 ?_ rfl ?_
       try simp only [Act.put, sA, sB, sC]
       refine rK [12] ?_
       refine AllReady.cons (o := ⟨none, _, _, _, _, _⟩) rfl (fun K hK => ?_) AllReady.nil
       refine step_store rwSt rfl (.tmp 66) (.tmp 64) rfl rfl rfl HK7.out HN8.out H8.out (cells32_one _) ?_
       intro w8 hk8 ho8
       refine hK _ _ ?_
       clear hK K
       simp only [Act.put]
       refine wpAny_done (by kernel_rfl) ?_ _
       go_wp2
       go_roundg (m2 - nn)
       case measure => omega
       case rel =>
        refine ⟨R.drop nn, M' ++ R.take nn, A6, m2 - nn, d6, Nat.le_refl _, rfl, ⟨HR7.out.grown (grown_only ho8)⟩, ⟨buf6, ?_⟩, grown_trans hg7 (grown_only ho8), ⟨by rw [List.append_assoc, List.take_append_drop]; exact HMR.out⟩⟩
        have hk9 : Blk w8 g 320 (hashCells (stepS st6 buf6) buf6 (m + nn)) := by
         have e := hash_state st6 (stepS st6 buf6) buf6 (m + nn)
         rw [← e]
         exact hk8
        exact full_rel hk9 HBB.out HBL5.out HBL.out HBuf.out HST6.out HM.out HRr.out (by rw [HRm.out]; exact hn1) (by have := HZ.out; omega)
 ·have hM1 : ((M.length : Int) == 0) = false := by rw [beq_eq_false_iff_ne]; omega
  have HG0 : Kp (∃ buf, HG w g M buf) := ⟨buf, ⟨by have := HB.out; rw [HST.out (by omega)] at this; exact this, HBL.out, HBuf.out⟩⟩
  have hgr : w.grownBy w (some g) := grown_refl _ _
  go_enter Tryz.func216, Tryz.ntmps216
  go_wp2
  go_step3
  go_wp2
  go_step3
  go_wp2
  clear HB HBL HST HBuf hc72 hm20
  go_loopg [18] n (fun gk v18 wr => ∃ i : Nat, i + gk = n ∧ v18 = .int .i64 i ∧ Kp (∃ buf, HG wr g (M ++ (ls.take i).flatten) buf) ∧ w.grownBy wr (some g))
  case atStart => exact ⟨0, by omega, rfl, by simpa using HG0, hgr⟩
  case round =>
   obtain ⟨i, hig, rfl, HGi, hgi⟩ := hrel
   rename_i g1
   cases gk with
   | zero =>
    have hlt : ¬ ((i : Int) < (n : Int)) := by omega
    have HE : Kp (M ++ (ls.take i).flatten = M ++ ls.flatten) := ⟨by rw [List.take_of_length_le (by rw [HLs.out.len]; omega)]⟩
    go_wp2
    try rw [Exit.noGoto_ret]
    go_end0
    refine ⟨rfl, ?_, hgi⟩
    rw [← HE.out]
    exact HGi.out
   | succ g2 =>
    have hli : i < ls.length := by rw [HLs.out.len]; omega
    have hlt : (i : Int) < (n : Int) := by omega
    obtain ⟨b, o, A', n', c', rfl, _, hcell, hbs⟩ := (HLs.out.grown hgi).at (i := i) (by omega)
    have HNext : Kp _ := ⟨take_flat ls i hli⟩
    have HTot : Kp (M.length + (ls.take (i + 1)).flatten.length ≤ 1048576) := ⟨by have := HN.out; have := take_flat_le ls (i + 1); omega⟩
    generalize ls[i] = P at *
    have HBs : Kp _ := ⟨hbs⟩
    have HPn : Kp (P.length = n') := ⟨hbs.bs.len⟩
    clear hbs
    go_wp2
    go_loopg [5] n' (fun g3 v5 wx => ∃ (R M' : List UInt8) (A2 : Option Addr) (m2 c2 : Nat), m2 ≤ g3 ∧ v5 = .slice A2 m2 c2 ∧ Kp (BsA wx g A2 m2 c2 R) ∧ Kp (∃ buf, HG wx g M' buf) ∧ w.grownBy wx (some g) ∧ Kp (M' ++ R = M ++ (ls.take i).flatten ++ P))
    case atStart => exact ⟨P, M ++ (ls.take i).flatten, A', n', c', Nat.le_refl _, rfl, HBs, HGi, hgi, ⟨rfl⟩⟩
    case round =>
     clear hcell HBs HGi hgi
     obtain ⟨R, M', A2, m2, c2, hm2, rfl, HR, HGx, hgx, HMR⟩ := hrel
     obtain ⟨buf, hg⟩ := HGx.out
     have HRm : Kp (R.length = m2) := ⟨HR.out.bs.len⟩
     have HK : Kp _ := ⟨hg.blk⟩
     have HBL : Kp _ := ⟨hg.len⟩
     have HBuf : Kp _ := ⟨hg.buf⟩
     have hM' : M'.length + m2 ≤ 1048576 := by
      have h1 := congrArg List.length HMR.out
      have h2 := HTot.out
      rw [HNext.out] at h2
      simp only [List.length_append] at h1 h2
      have := HRm.out
      omega
     have hc72 : wr.cell? ⟨g, 72, none⟩ = some (.int .u64 (M'.length : Int)) := by rw [hg.blk.cell? 72]; exact hash_size_at _ _ _ hg.len
     have hf72 := hg.blk.frozen 72
     clear hg HGx
     obtain ⟨m, hm⟩ : ∃ m, m = M'.length := ⟨_, rfl⟩
     obtain ⟨r, hr⟩ : ∃ r, r = m % 64 := ⟨_, rfl⟩
     rw [← hm] at hc72 hM' HK HBuf
     rw [← hr] at HBuf
     have hri : (m : Int) % 64 = (r : Int) := by omega
     have hrt : (m : Int).tmod 64 = (r : Int) := by rw [Int.tmod_eq_emod_of_nonneg (by omega)]; exact hri
     have hr64 : (r : Int) < 64 := by omega
     have hmi : (m : Int) ≤ 1048576 := by omega
     have HM : Kp _ := ⟨hm⟩
     have HRr : Kp _ := ⟨hr⟩
     have hsl := block_slice g r (by omega)
     clear hm hr
     go_wp2_with fail
     go_still_tail 10, (by kernel_rfl)
     change wpList _ _ _ _ _ wr.drew
     have HKd : Kp _ := ⟨HK.out.drew⟩
     have HLen : Kp (8 + r + (64 - r) ≤ (hashCells (foldB M' (m / 64)) buf m).length) := ⟨by rw [hashCells_length _ _ _ HBL.out]; omega⟩
     have HRd : Kp _ := ⟨HR.out.bs.drew⟩
     clear hsl hrt hc72 hf72 HK
     go_wp2_with (with_reducible refine wpList_copyBlk (o := ⟨some 32, _, _, _, _, _⟩) el8 rfl (.tmp 30) (.tmp 31) rfl rfl HKd.out HLen.out rfl HRd.out ?_)
     intro w5 hk5 ho5
     obtain ⟨nn, hnn⟩ : ∃ nn, nn = min m2 (64 - r) := ⟨_, rfl⟩
     have HX : Kp ((R.take (64 - r)).length = nn) := ⟨by rw [List.length_take, HRm.out, hnn]; omega⟩
     have HX2 : Kp (R.take (64 - r) = R.take nn) := ⟨by
      rcases Nat.le_total m2 (64 - r) with h | h
      ·rw [hnn, Nat.min_eq_left h, List.take_of_length_le (by rw [HRm.out]; exact h), List.take_of_length_le (by rw [HRm.out]; omega)]
      ·rw [hnn, Nat.min_eq_right h]⟩
     rw [← hnn] at hk5 ⊢
     have hn1 : nn ≤ m2 := by omega
     have hn2 : nn ≤ 64 - r := by omega
     have hn3 : nn = m2 ∨ nn = 64 - r := by omega
     have HK5 : Kp (Blk w5 g 320 (hashCells (foldB M' (m / 64)) (buf.take r ++ R.take nn ++ buf.drop (r + nn)) m)) := ⟨by
      have e := hash_copy (foldB M' (m / 64)) buf (R.take nn) m r HBL.out (by rw [← HX2.out, HX.out]; omega)
      rw [← HX2.out, HX.out] at e
      rw [← HX2.out, ← e]; exact hk5⟩
     have hbl5 : (buf.take r ++ R.take nn ++ buf.drop (r + nn)).length = 64 := by
      simp only [List.length_append, List.length_take, List.length_drop, HBL.out, HRm.out]; omega
     have HBL5 : Kp _ := ⟨hbl5⟩
     have HR5 : Kp (BsA w5 g A2 m2 c2 R) := ⟨HR.out.grown (grown_trans (grown_drew wr _) (grown_only ho5))⟩
     have hgx5 : w.grownBy w5 (some g) := grown_trans hgx (grown_trans (grown_drew wr _) (grown_only ho5))
     have c72 : w5.cell? ⟨g, 72, none⟩ = some (.int .u64 (m : Int)) := by rw [HK5.out.cell? 72]; exact hash_size_at _ _ _ hbl5
     have f72 := HK5.out.frozen 72
     have hnn64 : (nn : Int) ≤ 64 := by omega
     clear hk5 ho5 HKd HRd HLen HX HX2 HR hgx hnn hbl5
     have hcase : nn = 0 ∨ (0 < nn ∧ (m + nn) % 64 ≠ 0) ∨ (0 < nn ∧ (m + nn) % 64 = 0) := by omega
     rcases hcase with h0 | ⟨h0, h64⟩ | ⟨h0, h64⟩
     ·have hb1 : ((nn : Int) == 0) = true := by rw [beq_iff_eq]; omega
      have HZ : Kp _ := ⟨h0⟩
      clear h0
      go_wp2_with (with_reducible refine wpList_cut_lA (o := ⟨some 44, _, _, _, _, _⟩) el8 rfl (.tmp 42) (.tmp 43) rfl rfl (HR5.out.grown (grown_set w5 g 72 _)) _ _ nn rfl rfl hn1 ?_)
      intro A6 d6 hbs6
      clear hbs6
      go_wp2
      go_roundg g2
      case measure => omega
      case rel =>
       have hm0 : m2 = 0 := by have := HZ.out; omega
       have hR0 : R = [] := List.eq_nil_of_length_eq_zero (by rw [HRm.out, hm0])
       have hk6 := HK5.out.set 72 (.int .u64 (((m + nn : Nat) : Int)))
       rw [hash_size _ _ m (m + nn) HBL5.out, show ((m + nn : Nat) : Int) = (m : Int) + (nn : Int) by omega] at hk6
       have hbl6 := HBL5.out
       have hbuf := HBuf.out
       have hHM := HM.out
       have hHR := HRr.out
       subst hHM
       subst hHR
       have hh := hg_part hk6 hbl6 HBL.out hbuf (by rw [HRm.out]; exact hn1) (by have := HZ.out; omega)
       refine ⟨i + 1, by omega, by go_num, ⟨buf.take (M'.length % 64) ++ R.take nn ++ buf.drop (M'.length % 64 + nn), ?_⟩, grown_trans hgx5 (grown_set w5 g 72 _)⟩
       rw [HNext.out, ← List.append_assoc, ← HMR.out]
       have e : R.take nn = R := by rw [hR0]; simp
       rw [e] at hh ⊢
       exact hh
     ·have hb1 : ((nn : Int) == 0) = false := by rw [beq_eq_false_iff_ne]; omega
      have hb2 : (((m : Int) + (nn : Int)) % 64 == 0) = false := by rw [beq_eq_false_iff_ne]; omega
      have hb3 : (((m : Int) + (nn : Int)) % 64 != 0) = true := by simp only [bne, hb2]; rfl
      have HZ : Kp _ := ⟨h64⟩
      clear h64
      go_wp2_with (with_reducible refine wpList_cut_lA (o := ⟨some 44, _, _, _, _, _⟩) el8 rfl (.tmp 42) (.tmp 43) rfl rfl (HR5.out.grown (grown_set w5 g 72 _)) _ _ nn rfl rfl hn1 ?_)
      intro A6 d6 hbs6
      clear hbs6
      go_wp2
      go_roundg g2
      case measure => omega
      case rel =>
       have hr6 : r < 64 := by omega
       have hm2n : nn = m2 := by
        rcases hn3 with h | h
        ·exact h
        ·exfalso; apply HZ.out; have := HRr.out; omega
       have hk6 := HK5.out.set 72 (.int .u64 (((m + nn : Nat) : Int)))
       rw [hash_size _ _ m (m + nn) HBL5.out, show ((m + nn : Nat) : Int) = (m : Int) + (nn : Int) by omega] at hk6
       have hbl6 := HBL5.out
       have hbuf := HBuf.out
       have hHM := HM.out
       have hHR := HRr.out
       have hZ := HZ.out
       subst hHM
       subst hHR
       have hh := hg_part hk6 hbl6 HBL.out hbuf (by rw [HRm.out]; exact hn1) (by omega)
       refine ⟨i + 1, by omega, by go_num, ⟨buf.take (M'.length % 64) ++ R.take nn ++ buf.drop (M'.length % 64 + nn), ?_⟩, grown_trans hgx5 (grown_set w5 g 72 _)⟩
       rw [HNext.out, ← List.append_assoc, ← HMR.out]
       have e : R.take nn = R := by rw [List.take_of_length_le (by rw [HRm.out, hm2n]; exact Nat.le_refl _)]
       rw [e] at hh ⊢
       exact hh
     ·have hb1 : ((nn : Int) == 0) = false := by rw [beq_eq_false_iff_ne]; omega
      have hb2 : (((m : Int) + (nn : Int)) % 64 == 0) = true := by rw [beq_iff_eq]; omega
      have hb3 : (((m : Int) + (nn : Int)) % 64 != 0) = false := by simp only [bne, hb2]; rfl
      have HZ : Kp _ := ⟨h64⟩
      clear h64
      go_wp2_with (with_reducible refine wpList_cut_lA (o := ⟨some 44, _, _, _, _, _⟩) el8 rfl (.tmp 42) (.tmp 43) rfl rfl (HR5.out.grown (grown_set w5 g 72 _)) _ _ nn rfl rfl hn1 ?_)
      intro A6 d6 hbs6
      go_wp2_with fail
      have HK6 : Kp (Blk (w5.setCell ⟨g, 72, none⟩ (.int .u64 ((m : Int) + (nn : Int)))) g 320 (hashCells (foldB M' (m / 64)) (buf.take r ++ R.take nn ++ buf.drop (r + nn)) (m + nn))) := ⟨by
       have h3 := HK5.out.set 72 (.int .u64 (((m + nn : Nat) : Int)))
       rw [hash_size _ _ m (m + nn) HBL5.out, show ((m + nn : Nat) : Int) = (m : Int) + (nn : Int) by omega] at h3
       exact h3⟩
      have HR6 : Kp _ := ⟨hbs6⟩
      have hg6 := grown_trans hgx5 (grown_set w5 g 72 (.int .u64 ((m : Int) + (nn : Int))))
      clear hbs6 HK5 HR5 hgx5 c72 f72
      generalize w5.setCell ⟨g, 72, none⟩ (.int .u64 ((m : Int) + (nn : Int))) = w6 at *
      generalize hBB : buf.take r ++ R.take nn ++ buf.drop (r + nn) = buf6 at *
      have HBB : Kp _ := ⟨hBB⟩
      have H8 : Kp (0 + 8 ≤ (hashCells (foldB M' (m / 64)) buf6 (m + nn)).length) := ⟨by rw [hashCells_length _ _ _ HBL5.out]; omega⟩
      have H64 : Kp (8 + 64 ≤ (hashCells (foldB M' (m / 64)) buf6 (m + nn)).length) := ⟨by rw [hashCells_length _ _ _ HBL5.out]; omega⟩
      have HVS : Kp _ := ⟨hash_state_at (foldB M' (m / 64)) buf6 (m + nn)⟩
      have HVB : Kp _ := ⟨hash_buf_at (foldB M' (m / 64)) buf6 (m + nn) HBL5.out⟩
      have HN8 : Kp ((cells32 (stepS (foldB M' (m / 64)) buf6).list).length = 8) := ⟨rfl⟩
      have HK6d : Kp _ := ⟨HK6.out.drew⟩
      clear hBB
      generalize hst6 : foldB M' (m / 64) = st6 at *
      have HST6 : Kp _ := ⟨hst6⟩
      clear hst6
      refine wp_region_any (by kernel_rfl) ?_
      change wpAny _ _ _ _ _ _ _ w6.drew
      refine wT 0 55 ?_ rfl ?_
      try simp only [Act.put, sA, sB, sC]
      refine wT 1 56 ?_ rfl ?_
      try simp only [Act.put, sA, sB, sC]
      refine wT 2 57 ?_ rfl ?_
      try simp only [Act.put, sA, sB, sC]
      refine wT 3 58 ?_ rfl ?_
      try simp only [Act.put, sA, sB, sC]
      refine wT 5 60 ?_ rfl ?_
      try simp only [Act.put, sA, sB, sC]
      refine wT 6 61 ?_ rfl ?_
      try simp only [Act.put, sA, sB, sC]
      refine wT 7 62 ?_ rfl ?_
      try simp only [Act.put, sA, sB, sC]
      refine rK [4, 8] ?_
      refine aS 59 63 rfl rfl (fun K hK => ?_) fun K hK => ?_
      ·refine step_load rwSt rfl (.tmp 58) rfl rfl HK6d.out H8.out HVS.out ?_
       refine hK _ _ ?_
       clear hK K
       try simp only [Act.put, sA, sB, sC]
       refine rK [8] ?_
       refine aR 63 rfl fun K hK => ?_
       refine step_load rwBlock rfl (.tmp 62) rfl rfl HK6d.out H64.out HVB.out ?_
       refine hK _ _ ?_
       clear hK K
       try simp only [Act.put, sA, sB, sC]
       refine rK [9] ?_
       refine aR 64 rfl fun K hK => ?_
       go_simp
       refine (compress_any _ _ _ HBL5.out).mono ?_
       rintro e w7 ⟨rfl, hb7⟩
       refine hK _ _ ?_
       clear hK K
       try simp only [Act.put, sA, sB, sC]
       have HK7 : Kp (Blk w7 g 320 (hashCells st6 buf6 (m + nn))) := ⟨⟨(hb7.block g HK6.out.lt).trans HK6.out.heap⟩⟩
       have hg7 : w.grownBy w7 (some g) := grown_trans hg6 (grown_trans (grown_drew w6 _) (grown_below hb7 _))
       have HR7 : Kp _ := ⟨HR6.out.grown (grown_trans (grown_drew w6 _) (grown_below hb7 (some g)))⟩
       refine wT 10 65 ?_ rfl ?_
       try simp only [Act.put, sA, sB, sC]
       refine wT 11 66 ?_ rfl ?_
       try simp only [Act.put, sA, sB, sC]
       refine rK [12] ?_
       refine AllReady.cons (o := ⟨none, _, _, _, _, _⟩) rfl (fun K hK => ?_) AllReady.nil
       refine step_store rwSt rfl (.tmp 66) (.tmp 64) rfl rfl rfl HK7.out HN8.out H8.out (cells32_one _) ?_
       intro w8 hk8 ho8
       refine hK _ _ ?_
       clear hK K
       simp only [Act.put]
       refine wpAny_done (by kernel_rfl) ?_ _
       go_wp2
       go_roundg (m2 - nn)
       case measure => omega
       case rel =>
        refine ⟨R.drop nn, M' ++ R.take nn, A6, m2 - nn, d6, Nat.le_refl _, rfl, ⟨HR7.out.grown (grown_only ho8)⟩, ⟨buf6, ?_⟩, grown_trans hg7 (grown_only ho8), ⟨by rw [List.append_assoc, List.take_append_drop]; exact HMR.out⟩⟩
        have hk9 : Blk w8 g 320 (hashCells (stepS st6 buf6) buf6 (m + nn)) := by
         have e := hash_state st6 (stepS st6 buf6) buf6 (m + nn)
         rw [← e]
         exact hk8
        exact full_rel hk9 HBB.out HBL5.out HBL.out HBuf.out HST6.out HM.out HRr.out (by rw [HRm.out]; exact hn1) (by have := HZ.out; omega)
      ·refine step_load rwBlock rfl (.tmp 62) rfl rfl HK6d.out H64.out HVB.out ?_
       refine hK _ _ ?_
       clear hK K
       try simp only [Act.put, sA, sB, sC]
       refine rK [4] ?_
       refine aR 59 rfl fun K hK => ?_
       refine step_load rwSt rfl (.tmp 58) rfl rfl HK6d.out H8.out HVS.out ?_
       refine hK _ _ ?_
       clear hK K
       try simp only [Act.put, sA, sB, sC]
       refine rK [9] ?_
       refine aR 64 rfl fun K hK => ?_
       go_simp
       refine (compress_any _ _ _ HBL5.out).mono ?_
       rintro e w7 ⟨rfl, hb7⟩
       refine hK _ _ ?_
       clear hK K
       try simp only [Act.put, sA, sB, sC]
       have HK7 : Kp (Blk w7 g 320 (hashCells st6 buf6 (m + nn))) := ⟨⟨(hb7.block g HK6.out.lt).trans HK6.out.heap⟩⟩
       have hg7 : w.grownBy w7 (some g) := grown_trans hg6 (grown_trans (grown_drew w6 _) (grown_below hb7 _))
       have HR7 : Kp _ := ⟨HR6.out.grown (grown_trans (grown_drew w6 _) (grown_below hb7 (some g)))⟩
       refine wT 10 65 ?_ rfl ?_
       try simp only [Act.put, sA, sB, sC]
       refine wT 11 66 ?_ rfl ?_
       try simp only [Act.put, sA, sB, sC]
       refine rK [12] ?_
       refine AllReady.cons (o := ⟨none, _, _, _, _, _⟩) rfl (fun K hK => ?_) AllReady.nil
       refine step_store rwSt rfl (.tmp 66) (.tmp 64) rfl rfl rfl HK7.out HN8.out H8.out (cells32_one _) ?_
       intro w8 hk8 ho8
       refine hK _ _ ?_
       clear hK K
       simp only [Act.put]
       refine wpAny_done (by kernel_rfl) ?_ _
       go_wp2
       go_roundg (m2 - nn)
       case measure => omega
       case rel =>
        refine ⟨R.drop nn, M' ++ R.take nn, A6, m2 - nn, d6, Nat.le_refl _, rfl, ⟨HR7.out.grown (grown_only ho8)⟩, ⟨buf6, ?_⟩, grown_trans hg7 (grown_only ho8), ⟨by rw [List.append_assoc, List.take_append_drop]; exact HMR.out⟩⟩
        have hk9 : Blk w8 g 320 (hashCells (stepS st6 buf6) buf6 (m + nn)) := by
         have e := hash_state st6 (stepS st6 buf6) buf6 (m + nn)
         rw [← e]
         exact hk8
        exact full_rel hk9 HBB.out HBL5.out HBL.out HBuf.out HST6.out HM.out HRr.out (by rw [HRm.out]; exact hn1) (by have := HZ.out; omega)
end Go.Proofs.YtcehkafddlfleaaGreatDoor
