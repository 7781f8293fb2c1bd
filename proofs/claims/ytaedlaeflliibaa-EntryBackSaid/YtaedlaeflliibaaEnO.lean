/- Bytes in pieces of 32: the library's slices.Chunk, an iterator. -/
import Derived.Test.YtaedlaeflliibaaEnI
import Derived.Test.YtaedlaeflliibaaNdL
import Derived.StillTailTactics
import Derived.RangeFuncBound
import Derived.Deep.Cut
namespace Go.Proofs.Ytaedlaeflliibaa
open Go.RowKit

section
variable {P : Program} {w : World} {ops : Array Oper} {rest : List Oper} {o : Oper} {a : Act} {Q : Act → Prop} {t e : TypeId} {z : Value} {bytes : Nat}
/-- x[i:] of bytes, where the order is drawn -/
theorem wpStill_cut_l (E : El P t e z bytes) (hg : o.guard = none) (x lo : Operand) (hop : o.op = Op.slice t x (some lo) none none)
    {L : Nat} {A : Option Addr} {n c : Nat} {l : List UInt8} (hx : a.eval x = .slice A n c) (hb : Bs w L A n c l) (k : IntKind) (I : Int) (i : Nat) (hlo : a.eval lo = .int k I) (hI : I = i) (hi : i ≤ n)
    (h : ∀ A' m d, Bs w L A' m d (l.drop i) → wpStill P ops w Q rest (a.put o.dst (.slice A' m d))) : wpStill P ops w Q (o :: rest) a := by
  subst hI
  refine wpStill_step fun K hK => ?_
  have hw : Region.wanted o (yielded ops a.tmps) = true := by simp [Region.wanted, hg]
  rw [if_pos hw]
  have hrun := run_slice_l (P := P) (w := w) t A n c E.ty' k (i : Int) (by omega) (by omega)
  rw [E.sizeOf] at hrun
  have h2 := hb.cut (i := i) (k := n) hi (Nat.le_refl _)
  rw [List.take_of_length_le (by rw [hb.len]; exact Nat.le_refl _)] at h2
  unfold Oper.still
  simp [execOp, hop, hx, hlo, run_sliceAt_slice (P := P) (w := w) t _ _ _ _ E.ty', hrun, Result.andThen, sliced, Oper.stillUpon]
  exact hK _ (h _ _ _ h2)
end
section
set_option maxRecDepth 100000
set_option maxHeartbeats 2000000
theorem chunk_any (A : Option Addr) (n c : Nat) (w : World) :
    Calls Try.prog 33 #[.slice A n c, .int .i64 32] w fun r w' => ∃ B : Nat, B = w.heap.size ∧ r = .returned (.func (.func 47) #[] #[.pointer (some ⟨B, 0, none⟩), .pointer (some ⟨B + 1, 0, none⟩)]) ∧
      Blk w' B 23 [.slice A n c] ∧ Blk w' (B + 1) 3 [.int .i64 32] ∧ Below w.heap.size w w' := by
  go_enter Try.func33, Try.ntmps33
  go_wp2
  go_ret
  refine ⟨_, rfl, rfl, ?_, ?_, ?_⟩
  · exact (Blk.new w _ [.slice A n c]).alloc _
  · have h := Blk.new (w.alloc (.cells #[.slice A n c] 23)) 3 [.int .i64 32]
    rwa [World.size_alloc] at h
  · exact ((Below.refl _ w).alloc (Nat.le_refl _) _).alloc (by simp) _
attribute [local go_sem] Oper.semAt_some
/-- how many pieces there are; how long one is -/
def pcs (n : Nat) : Nat := (n + 31) / 32
def pcl (n j : Nat) : Nat := min 32 (n - 32 * j)
theorem chunk_stops (n₀ bb oo n c Bb Bn : Nat) (A : Option Addr) (b : List UInt8) (w : World) (hn0 : n₀ ≤ w.heap.size) (hn : n ≤ 4294967296) (hb : Bs w n₀ A n c b) (hA : 0 < n → A = some ⟨bb, oo, none⟩) (hBb : Blk w Bb 23 [.slice A n c]) (hBn : Blk w Bn 3 [.int .i64 32]) :
    SeqR Try.prog 47 #[.pointer (some ⟨Bb, 0, none⟩), .pointer (some ⟨Bn, 0, none⟩)] (fun j : Nat => #[.slice (some ⟨bb, oo + 32 * j, none⟩) (pcl n j) (pcl n j)]) (KpB n₀ [Bb, Bn]) (fun xs => xs = List.range (pcs n)) (fun pre => ∃ k, k ≤ pcs n ∧ pre = List.range k) (pcs n) w := by
  intro l J Jx W hW hJ _ hY h0
  have HJ : Kp _ := ⟨hJ⟩
  have HY : Kp _ := ⟨hY⟩
  have H0 : Kp _ := ⟨h0⟩
  have HBb : Kp (Blk W Bb 23 [.slice A n c]) := ⟨hBb.below hW hBb.lt⟩
  have HBn : Kp (Blk W Bn 3 [.int .i64 32]) := ⟨hBn.below hW hBn.lt⟩
  have HB : Kp (Bs W n₀ A n c b) := ⟨hb.below (hW.mono hn0)⟩
  have HnW : Kp (n₀ ≤ W.heap.size) := ⟨Nat.le_trans hn0 hW.size⟩
  have HE0 : Kp (KpB n₀ [Bb, Bn] W W) := ⟨KpB.refl _⟩
  have hcap := hb.cap
  have hle := hb.le
  have HA : Kp _ := ⟨hA⟩
  clear hJ hY h0 hBb hBn hn0 hW hb hA
  refine callsIn_of_wp Try.func47 rfl trivial ?_ rfl
  simp only [Try.ntmps47, List.size_toArray, List.length_cons, List.length_nil, Nat.reduceAdd, Nat.reduceSub, Array.replicate_succ, Array.replicate_zero, List.push_toArray, List.append_toArray, List.nil_append, List.cons_append]
  refine wpIn_wide.2 ?_
  go_wp2
  go_loopg [4] (pcs n) (fun gk v4 wr => ∃ (k j : Nat), j + gk = pcs n ∧ Kp (k = 32 * j) ∧ v4 = .int .i64 (k : Int) ∧ Kp (J (List.range j) wr) ∧ Kp (KpB n₀ [Bb, Bn] W wr))
  case atStart => exact ⟨0, 0, by omega, ⟨rfl⟩, rfl, H0, HE0⟩
  case round =>
    obtain ⟨k, j, hjN, HKj, rfl, HJr, HE⟩ := hrel
    have hkj := HKj.out
    have cb : wr.cell? ⟨Bb, 0, none⟩ = some (.slice A n c) := (HE.out.blk HBb.out (by simp)).cell? 0
    have cn : wr.cell? ⟨Bn, 0, none⟩ = some (.int .i64 32) := (HE.out.blk HBn.out (by simp)).cell? 0
    have hpn : pcs n = (n + 31) / 32 := rfl
    cases gk with
    | zero =>
      have hend : ¬ ((k : Int) < (n : Int)) := by omega
      have HKe : Kp (j = pcs n) := ⟨by omega⟩
      clear hkj hpn
      go_wp2
      go_end0
      rw [HKe.out] at HJr
      exact ⟨⟨_, rfl⟩, .inl HJr.out⟩
    | succ g2 =>
      have hkn : k < n := by omega
      have hgo : (k : Int) < (n : Int) := by omega
      have hjp : j < pcs n := by omega
      have eA := HA.out (by omega)
      subst eA
      obtain ⟨q, hq⟩ : ∃ q, q = pcl n j := ⟨_, rfl⟩
      have hqv : q = min 32 (n - k) := by rw [hq, hkj]; rfl
      have HJd : Kp (J (List.range j) wr.drew) := ⟨HJ.out _ _ _ none HJr.out ⟨rfl, rfl, rfl, Nat.le_refl _, fun _ _ _ => rfl⟩ (fun r e => by cases e)⟩
      have HNx : Kp (List.range j ++ [j] = List.range (j + 1)) := ⟨List.range_succ.symm⟩
      obtain ⟨fn, tmps, assign, body, hy, hR⟩ := HY.out (List.range j) j wr.drew HJd.out (by rw [List.length_range]; exact hjp)
      try simp only at hy
      rw [← hkj, ← hq] at hy
      have HRd : Kp _ := ⟨hR⟩
      have hreg : Kp (j + g2 + 1 = pcs n) := ⟨by omega⟩
      have HBr : Kp (Bs wr.drew n₀ (some ⟨bb, oo, none⟩) n c b) := ⟨(HB.out.below HE.out.below).drew⟩
      have hq1 : 1 ≤ q := by omega
      have hq2 : k + q ≤ n := by omega
      have HQ : Kp (q = min 32 (n - k)) := ⟨hqv⟩
      clear hR HJr hkj HJd hpn hq hqv
      go_upto_region 3 with fail
      refine (wpIn_wide (n := 7)).1 ?_
      refine wpIn_region_tail 6 (by kernel_rfl) (by kernel_rfl) (fun o _ => letsOp_wide) ?_
      simp only [List.take_succ_cons, List.take_zero, List.drop_succ_cons, List.drop_zero]
      repeat still_step
      refine wpStill_cut_l (o := ⟨some 16, _, _, _, _, _⟩) el8 rfl (.tmp 14) (.tmp 15) rfl rfl HBr.out .i64 (k : Int) k rfl rfl (by omega) ?_
      intro A' m d hcut
      have hm := hcut.len
      rw [List.length_drop, HBr.out.len] at hm
      have hmn : min (32 : Int) (m : Int) = (q : Int) := by have := HQ.out; omega
      clear hcut hm
      repeat still_step
      refine wpStill_nil ?_
      have hkk : ((k : Int) + (q : Int)).toNat = k + q := by omega
      clear cb cn hmn
      have cb2 : wr.drew.cell? ⟨Bb, 0, none⟩ = some (.slice (some ⟨bb, oo, none⟩) n c) := (HE.out.blk HBb.out (by simp)).cell? 0
      have cn2 : wr.drew.cell? ⟨Bn, 0, none⟩ = some (.int .i64 32) := (HE.out.blk HBn.out (by simp)).cell? 0
      gi_wp2
      go_upto_region 4 with fail
      refine (wpIn_wide (n := 7)).1 ?_
      gi_wp2
      refine HRd.out.mono ?_
      rintro r W3 (⟨rfl, hJ3, hk3, _⟩ | ⟨rfl, hJx3, _⟩)
      · have HJ3 : Kp _ := ⟨hJ3⟩
        have HE3 : Kp _ := ⟨HE.out.trans ((KpB.of_below ((Below.refl _ wr).drew) (Nat.le_trans HnW.out HE.out.below.size)).trans hk3)⟩
        rw [HNx.out] at HJ3
        have cn3 : W3.cell? ⟨Bn, 0, none⟩ = some (.int .i64 32) := (HE3.out.blk HBn.out (by simp)).cell? 0
        clear hJ3 hk3 HRd cb2 cn2 hkk
        gi_wp2
        go_wp2
        go_roundg g2
        case measure => omega
        case rel => exact ⟨k + 32, j + 1, by have := hreg.out; omega, ⟨by have := HKj.out; omega⟩, by go_num, HJ3, HE3⟩
      · rw [HNx.out] at hJx3
        have HJx : Kp _ := ⟨hJx3⟩
        clear hJx3 HRd cb2 cn2
        gi_wp2
        go_wp2
        refine bodyPost_ret (results_none rfl _ _ _) rfl ?_
        exact ⟨⟨_, rfl⟩, .inr ⟨_, ⟨j + 1, by have := hreg.out; omega, rfl⟩, HJx.out⟩⟩
end
end Go.Proofs.Ytaedlaeflliibaa
