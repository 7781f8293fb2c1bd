/- The contract of strings.SplitSeq at one slash: an iterator over the parts of a text. -/
import Derived.Test.YtaedlaeflliibaaDoorPtP
import Derived.Test.YtaedlaeflliibaaDoorPtC
import Derived.Test.YtaedlaeflliibaaDoorShA
import Derived.Test.YtaedlaeflliibaaDoorRows
import Derived.OwnWalkIn
import Derived.TacticsInMore
import Derived.LoopNIn
import Derived.LoopIn
import Derived.Laws.Tables
import Derived.Deep.CutRange
namespace Go.Proofs.YtaedlaeflliibaaDoor
open Go.RowKit

/-- a part of a path: at most 200 bytes -/
abbrev Pt := { x : Nm // x.length ≤ 200 }
def ptL (l : List Pt) : List Nm := l.map (·.1)
theorem ptL_snoc (l : List Pt) (x : Pt) : ptL (l ++ [x]) = ptL l ++ [x.1] := by simp [ptL]
theorem ptL_length (l : List Pt) : (ptL l).length = l.length := by simp [ptL]
theorem bs_take (l : Nm) (k : Nat) : (ByteArray.mk l.toArray).extract 0 k = ⟨(l.take k).toArray⟩ := by
  apply ByteArray.ext
  simp [ByteArray.data_extract]
theorem bs_drop (l : Nm) (k n : Nat) (h : n = l.length) : (ByteArray.mk l.toArray).extract k n = ⟨(l.drop k).toArray⟩ := by
  subst h
  apply ByteArray.ext
  simp [ByteArray.data_extract]
  rw [List.take_of_length_le (by simp)]
theorem index_any (l : Nm) (w : World) : Calls Tryd.prog 37 #[.string ⟨l.toArray⟩, .string ⟨#[47]⟩] w fun e w' => e = .returned (.int .i64 (Lib.indexByte l 47)) ∧ w' = w := by
  have h := Any.strings_Index_one indexA ⟨l.toArray⟩ 47 w
  have e : (ByteArray.mk l.toArray).data.toList = l := by simp
  rw [e] at h
  exact h
section
set_option maxRecDepth 100000
set_option maxHeartbeats 2000000
theorem splitseq_any (s : Nm) (w : World) :
    Calls Tryd.prog 24 #[.string ⟨s.toArray⟩, .string ⟨#[47]⟩] w fun r w' => ∃ B : Nat, B = w.heap.size ∧ r = .returned (.func (.func 35) #[] #[.pointer (some ⟨B + 1, 0, none⟩), .pointer (some ⟨B, 0, none⟩), .pointer (some ⟨B + 2, 0, none⟩)]) ∧
      Blk w' B 9 [.string ⟨s.toArray⟩] ∧ Blk w' (B + 1) 9 [.string ⟨#[47]⟩] ∧ Blk w' (B + 2) 3 [.int .i64 0] ∧ Below w.heap.size w w' := by
  go_enter Tryd.func24, Tryd.ntmps24
  go_wp2
  go_ret
  refine ⟨_, rfl, rfl, ?_, ?_, ?_, ?_⟩
  · exact ((Blk.new w _ [.string ⟨s.toArray⟩]).alloc _).alloc _
  · have h := Blk.new (w.alloc (.cells #[.string ⟨s.toArray⟩] 9)) 9 [.string ⟨#[47]⟩]
    rw [World.size_alloc] at h
    exact h.alloc _
  · have h := Blk.new ((w.alloc (.cells #[.string ⟨s.toArray⟩] 9)).alloc (.cells #[.string ⟨#[47]⟩] 9)) 3 [.int .i64 0]
    rw [World.size_alloc, World.size_alloc] at h
    exact h
  · exact (((Below.refl _ w).alloc (Nat.le_refl _) _).alloc (by simp) _).alloc (by simp; omega) _
attribute [local go_sem] Oper.semAt_some
theorem split_stops (n₀ Bs Bp Bv : Nat) (s : Nm) (w : World) (hBs : Blk w Bs 9 [.string ⟨s.toArray⟩]) (hBp : Blk w Bp 9 [.string ⟨#[47]⟩]) (hBv : Blk w Bv 3 [.int .i64 0]) (hd1 : Bs ≠ Bp) (hd2 : Bs ≠ Bv) (hsn : n₀ ≤ Bs) (hs : s.length ≤ 200) :
    SeqC Tryd.prog 35 #[.pointer (some ⟨Bp, 0, none⟩), .pointer (some ⟨Bs, 0, none⟩), .pointer (some ⟨Bv, 0, none⟩)] (fun x : Pt => #[.string ⟨x.1.toArray⟩]) (KpB n₀ [Bs, Bp, Bv]) Bs (fun xs => ptL xs = splitS s) (fun pre => ∃ r, ptL pre ++ r = splitS s) (splitS s).length w := by
  intro l J Jx W hW hJ _ hSt hY h0
  have HJ : Kp _ := ⟨hJ⟩
  have HSt : Kp _ := ⟨hSt⟩
  have HY : Kp _ := ⟨hY⟩
  have H0 : Kp _ := ⟨h0⟩
  have HBs : Kp (Blk W Bs 9 [.string ⟨s.toArray⟩]) := ⟨hBs.below hW hBs.lt⟩
  have HBp : Kp (Blk W Bp 9 [.string ⟨#[47]⟩]) := ⟨hBp.below hW hBp.lt⟩
  have HBv : Kp (Blk W Bv 3 [.int .i64 0]) := ⟨hBv.below hW hBv.lt⟩
  have HSz : Kp (s.length ≤ 200) := ⟨hs⟩
  have HD : Kp (Bs ≠ Bp ∧ Bs ≠ Bv) := ⟨hd1, hd2⟩
  have HN0 : Kp (n₀ ≤ Bs) := ⟨hsn⟩
  have cp : W.cell? ⟨Bp, 0, none⟩ = some (.string ⟨#[47]⟩) := HBp.out.cell? 0
  clear hJ hSt hY h0 hBs hBp hBv hW hs hd1 hd2 hsn
  refine callsIn_of_wp Tryd.func35 rfl trivial ?_ rfl
  simp only [Tryd.ntmps35, List.size_toArray, List.length_cons, List.length_nil, Nat.reduceAdd, Nat.reduceSub, Array.replicate_succ, Array.replicate_zero, List.push_toArray, List.append_toArray, List.nil_append, List.cons_append]
  refine wpIn_wide.2 ?_
  go_wp2
  clear cp
  go_loopg [7, 8] s.length (fun gk v7 v8 wr => ∃ (cur : Nm) (pre : List Pt), cur.length ≤ gk ∧ Kp (ptL pre ++ splitS cur = splitS s ∧ cur.length ≤ 200) ∧ Kp (J pre wr) ∧ Kp (Blk wr Bs 9 [.string ⟨cur.toArray⟩]) ∧ Kp (Blk wr Bp 9 [.string ⟨#[47]⟩]) ∧ Kp (Blk wr Bv 3 [.int .i64 0]))
  case atStart => exact ⟨s, [], Nat.le_refl _, ⟨rfl, HSz.out⟩, H0, HBs, HBp, HBv⟩
  case round =>
    obtain ⟨cur, pre, hgk, HC, HJr, HCs, HCp, HCv⟩ := hrel
    have cs : wr.cell? ⟨Bs, 0, none⟩ = some (.string ⟨cur.toArray⟩) := HCs.out.cell? 0
    have cp : wr.cell? ⟨Bp, 0, none⟩ = some (.string ⟨#[47]⟩) := HCp.out.cell? 0
    have cv : wr.cell? ⟨Bv, 0, none⟩ = some (.int .i64 0) := HCv.out.cell? 0
    have hszc : (ByteArray.mk cur.toArray).size = cur.length := by simp [ByteArray.size]
    have HIdx : Kp _ := ⟨index_any cur wr⟩
    have HGe : Kp (-1 ≤ Lib.indexByte cur 47) := ⟨Lib.indexByte_ge _ _⟩
    by_cases hneg : Lib.indexByte cur 47 = -1
    · have HNo : Kp (splitS cur = [cur]) := ⟨split_no cur (idx_no hneg)⟩
      rw [hneg] at HIdx
      have hlen : pre.length < (splitS s).length := by
        have h := HC.out.1
        rw [HNo.out] at h
        rw [← h, List.length_append, ptL_length]; simp
      have HAll : Kp (ptL (pre ++ [(⟨cur, HC.out.2⟩ : Pt)]) = splitS s) := ⟨by have h := HC.out.1; rw [HNo.out] at h; rw [ptL_snoc]; exact h⟩
      obtain ⟨fn, tmps, assign, body, hy, hR⟩ := HY.out pre ⟨cur, HC.out.2⟩ wr HJr.out hlen
      dsimp only at hy
      have HRd : Kp _ := ⟨hR⟩
      clear hR hlen hneg
      go_upto_region 10 with (go_at_call 37; refine (HIdx.out).mono ?_; rintro e w' ⟨rfl, rfl⟩)
      refine (wpIn_wide (n := 7)).1 ?_
      gi_wp2
      refine HRd.out.mono ?_
      rintro r W3 (⟨rfl, hJ3, hk3, _⟩ | ⟨rfl, hJx3, _⟩)
      · gi_wp2
        go_end0
        exact ⟨⟨_, rfl⟩, .inl ⟨_, HAll.out, hJ3⟩⟩
      · gi_wp2
        go_end0
        exact ⟨⟨_, rfl⟩, .inr ⟨_, ⟨[], by rw [List.append_nil]; exact HAll.out⟩, hJx3⟩⟩
    · obtain ⟨o, ho⟩ := Int.eq_ofNat_of_zero_le (show 0 ≤ Lib.indexByte cur 47 by have := HGe.out; omega)
      obtain ⟨ho1, ho2⟩ := idx_at ho
      rw [ho] at HIdx
      have hlen : pre.length < (splitS s).length := by
        have h := HC.out.1
        rw [ho2] at h
        rw [← h, List.length_append, ptL_length]; simp
      have ht200 : (cur.take o).length ≤ 200 := by have := HC.out.2; simp; omega
      have HNx : Kp (ptL (pre ++ [(⟨cur.take o, ht200⟩ : Pt)]) ++ splitS (cur.drop (o + 1)) = splitS s) := ⟨by
        have h := HC.out.1
        rw [ho2] at h
        rw [ptL_snoc, List.append_assoc]; exact h⟩
      have HLd : Kp ((cur.drop (o + 1)).length ≤ gk - 1 ∧ (cur.drop (o + 1)).length ≤ 200) := ⟨by have := HC.out.2; simp; omega⟩
      obtain ⟨fn, tmps, assign, body, hy, hR⟩ := HY.out pre ⟨cur.take o, ht200⟩ wr HJr.out hlen
      dsimp only at hy
      rw [← bs_take] at hy
      have HRd : Kp _ := ⟨hR⟩
      have ho2' : (o : Int) ≤ (cur.length : Int) := by omega
      have ho3 : (o : Int) + 1 ≤ (cur.length : Int) := by omega
      have hcl : cur.length ≤ 200 := HC.out.2
      have HDr : Kp ((ByteArray.mk cur.toArray).extract (o + 1) cur.length = ⟨(cur.drop (o + 1)).toArray⟩) := ⟨bs_drop cur (o + 1) _ rfl⟩
      have hgk1 : 1 ≤ gk := by omega
      clear hR hlen hneg ho ho2
      go_upto_region 8 with (go_at_call 37; refine (HIdx.out).mono ?_; rintro e w' ⟨rfl, rfl⟩)
      refine (wpIn_wide (n := 7)).1 ?_
      gi_wp2
      refine HRd.out.mono ?_
      rintro r W3 (⟨rfl, hJ3, hk3, _⟩ | ⟨rfl, hJx3, _⟩)
      · have HK3 : Kp _ := ⟨hk3⟩
        have HJ3 : Kp _ := ⟨hJ3⟩
        have HCs3 : Kp _ := ⟨hk3.blk HCs.out (by simp)⟩
        have HCp3 : Kp _ := ⟨hk3.blk HCp.out (by simp)⟩
        have HCv3 : Kp _ := ⟨hk3.blk HCv.out (by simp)⟩
        clear hJ3 hk3 HRd cs cp cv
        have cs : W3.cell? ⟨Bs, 0, none⟩ = some (.string ⟨cur.toArray⟩) := HCs3.out.cell? 0
        have cp : W3.cell? ⟨Bp, 0, none⟩ = some (.string ⟨#[47]⟩) := HCp3.out.cell? 0
        have fs : W3.frozen? ⟨Bs, 0, none⟩ = false := HCs3.out.frozen 0
        gi_wp2
        go_wp2
        rw [HDr.out]
        have HJ4 : Kp _ := ⟨HSt.out _ _ (.string ⟨(cur.drop (o + 1)).toArray⟩) HJ3.out⟩
        have HCs4 : Kp (Blk (W3.setCell ⟨Bs, 0, none⟩ (.string ⟨(cur.drop (o + 1)).toArray⟩)) Bs 9 [.string ⟨(cur.drop (o + 1)).toArray⟩]) := ⟨HCs3.out.set 0 _⟩
        have HCp4 : Kp _ := ⟨HCp3.out.only (Only.setCell W3 ⟨Bs, 0, none⟩ (.string ⟨(cur.drop (o + 1)).toArray⟩)) (fun e => HD.out.1 e.symm)⟩
        have HCv4 : Kp _ := ⟨HCv3.out.only (Only.setCell W3 ⟨Bs, 0, none⟩ (.string ⟨(cur.drop (o + 1)).toArray⟩)) (fun e => HD.out.2 e.symm)⟩
        clear cs cp fs
        go_roundg (gk - 1)
        case measure => omega
        case rel => exact ⟨cur.drop (o + 1), _, HLd.out.1, ⟨HNx.out, HLd.out.2⟩, HJ4, HCs4, HCp4, HCv4⟩
      · gi_wp2
        go_wp2
        refine bodyPost_ret (results_none rfl _ _ _) rfl ?_
        exact ⟨⟨_, rfl⟩, .inr ⟨_, ⟨_, HNx.out⟩, hJx3⟩⟩
end
end Go.Proofs.YtaedlaeflliibaaDoor
