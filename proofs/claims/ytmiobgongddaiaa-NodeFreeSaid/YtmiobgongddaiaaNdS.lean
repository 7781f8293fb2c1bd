/- The spans of a file: package node's spans, an iterator. -/
import Derived.Test.YtmiobgongddaiaaNdI
import Derived.Test.YtmiobgongddaiaaNdL
import Derived.OwnWalkIn
import Derived.TacticsInMore
import Derived.LoopNIn
import Derived.LoopIn
import Derived.Laws.Tables
import Derived.Deep.CutRange
namespace Go.Proofs.Ytmiobgongddaiaa
open Go.RowKit

def spV (s : Sp) : List Value := [.int .i64 (s.k : Int), .int .i64 (s.f : Int), .int .i64 (s.t : Int)]
def spP (a e j : Nat) : List Sp := (List.range j).map fun i => spN a e (a / 256 + i)
theorem spP_snoc (a e j : Nat) : spP a e j ++ [spN a e (a / 256 + j)] = spP a e (j + 1) := by unfold spP; rw [List.range_succ, List.map_append]; rfl
theorem spP_all (a e : Nat) : spsN a e = spP a e ((e + 255) / 256 - a / 256) := rfl
theorem spP_pre (a e j N : Nat) (h : j ≤ N) : spP a e j <+: spP a e N := by
  unfold spP
  refine List.IsPrefix.map _ ?_
  refine ⟨List.range' j (N - j), ?_⟩
  rw [List.range_eq_range', List.range_eq_range', show List.range' j (N - j) = List.range' (0 + j) (N - j) by rw [Nat.zero_add], List.range'_append_1, show j + (N - j) = N by omega]
theorem spP_length (a e j : Nat) : (spP a e j).length = j := by simp [spP]
section
set_option maxRecDepth 100000
set_option maxHeartbeats 2000000
theorem mspans_any (a e : Int) (w : World) :
    Calls Try.prog 41 #[.int .i64 a, .int .i64 e] w fun r w' => ∃ B : Nat, B = w.heap.size ∧ r = .returned (.func (.func 48) #[] #[.pointer (some ⟨B, 0, none⟩), .pointer (some ⟨B + 1, 0, none⟩)]) ∧
      Blk w' B 3 [.int .i64 a] ∧ Blk w' (B + 1) 3 [.int .i64 e] ∧ Below w.heap.size w w' := by
  go_enter Try.func41, Try.ntmps41
  go_wp2
  go_ret
  refine ⟨_, rfl, rfl, ?_, ?_, ?_⟩
  · exact (Blk.new w _ [.int .i64 a]).alloc _
  · have h := Blk.new (w.alloc (.cells #[.int .i64 a] 3)) 3 [.int .i64 e]
    rwa [World.size_alloc] at h
  · exact ((Below.refl _ w).alloc (Nat.le_refl _) _).alloc (by simp) _
attribute [local go_sem] Oper.semAt_some
theorem spans_stops (n₀ a e Ba Be : Nat) (w : World) (hn0 : n₀ ≤ w.heap.size) (hBa : Blk w Ba 3 [.int .i64 (a : Int)]) (hBe : Blk w Be 3 [.int .i64 (e : Int)]) (ha : a ≤ 35840) (he : e ≤ 35840) :
    SeqR Try.prog 48 #[.pointer (some ⟨Ba, 0, none⟩), .pointer (some ⟨Be, 0, none⟩)] (fun s : Sp => #[.agg (spV s).toArray]) (KpB n₀ [Ba, Be]) (fun xs => xs = spsN a e) (fun pre => pre <+: spsN a e) 200 w := by
  intro l J Jx W hW hJ _ hY h0
  have HJ : Kp _ := ⟨hJ⟩
  have HY : Kp _ := ⟨hY⟩
  have H0 : Kp _ := ⟨h0⟩
  have HBa : Kp (Blk W Ba 3 [.int .i64 (a : Int)]) := ⟨hBa.below hW hBa.lt⟩
  have HBe : Kp (Blk W Be 3 [.int .i64 (e : Int)]) := ⟨hBe.below hW hBe.lt⟩
  have HnW : Kp (n₀ ≤ W.heap.size) := ⟨Nat.le_trans hn0 hW.size⟩
  have HE0 : Kp (KpB n₀ [Ba, Be] W W) := ⟨KpB.refl _⟩
  obtain ⟨K0, hK0⟩ : ∃ K0, K0 = a / 256 := ⟨_, rfl⟩
  obtain ⟨N, hN⟩ : ∃ N, N = (e + 255) / 256 - a / 256 := ⟨_, rfl⟩
  have hq0 : (a : Int) / 256 = (K0 : Int) := by omega
  have HN : Kp (N = (e + 255) / 256 - K0 ∧ K0 = a / 256) := ⟨by omega, hK0⟩
  have HS : Kp (spsN a e = spP a e N) := ⟨by rw [hN]; rfl⟩
  have hN141 : N ≤ 140 := by omega
  have ca : W.cell? ⟨Ba, 0, none⟩ = some (.int .i64 (a : Int)) := HBa.out.cell? 0
  clear hJ hY h0 hBa hBe hn0 hN hK0 hW
  refine callsIn_of_wp Try.func48 rfl trivial ?_ rfl
  simp only [Try.ntmps48, List.size_toArray, List.length_cons, List.length_nil, Nat.reduceAdd, Nat.reduceSub, Array.replicate_succ, Array.replicate_zero, List.push_toArray, List.append_toArray, List.nil_append, List.cons_append]
  refine wpIn_wide.2 ?_
  go_wp2
  clear ca
  go_loopg [4] N (fun gk v4 wr => ∃ (k j : Nat), j + gk = N ∧ Kp (k = K0 + j) ∧ v4 = .int .i64 (k : Int) ∧ Kp (J (spP a e j) wr) ∧ Kp (KpB n₀ [Ba, Be] W wr))
  case atStart => exact ⟨K0, 0, by omega, ⟨rfl⟩, rfl, H0, HE0⟩
  case round =>
    obtain ⟨k, j, hjN, HKj, rfl, HJr, HE⟩ := hrel
    have hkj := HKj.out
    obtain ⟨K, hK⟩ : ∃ x, x = 256 * k := ⟨_, rfl⟩
    have r1 : (k : Int) * 256 = (K : Int) := by omega
    have HKk : Kp (K = 256 * k) := ⟨hK⟩
    have hKb : K ≤ 72000 := by have := HN.out; omega
    have r2 : wrap64 (K : Int) = (K : Int) := by rw [wrap64]; omega
    have cb : wr.cell? ⟨Be, 0, none⟩ = some (.int .i64 (e : Int)) := (HE.out.blk HBe.out (by simp)).cell? 0
    have cc : wr.cell? ⟨Ba, 0, none⟩ = some (.int .i64 (a : Int)) := (HE.out.blk HBa.out (by simp)).cell? 0
    cases gk with
    | zero =>
      have hend : ¬ ((K : Int) < (e : Int)) := by have := HN.out; omega
      have HKe : Kp (j = N) := ⟨by omega⟩
      clear hkj hK
      go_wp2
      go_end0
      rw [HKe.out] at HJr
      exact ⟨⟨_, rfl⟩, .inl (by rw [HS.out]; exact HJr.out)⟩
    | succ g2 =>
      have hgo : (K : Int) < (e : Int) := by have := HN.out; omega
      have HJd : Kp (J (spP a e j) wr.drew) := ⟨HJ.out _ _ _ none HJr.out ⟨rfl, rfl, rfl, Nat.le_refl _, fun _ _ _ => rfl⟩ (fun r e => by cases e)⟩
      obtain ⟨s, hs⟩ : ∃ s, s = spN a e k := ⟨_, rfl⟩
      obtain ⟨f, hf⟩ : ∃ f, f = s.f := ⟨_, rfl⟩
      obtain ⟨t, ht⟩ : ∃ t, t = s.t := ⟨_, rfl⟩
      have hsk : s.k = k := by rw [hs]; rfl
      have hf' : f = a - K := by rw [hf, hs, hK]; rfl
      have ht' : t = min (e - K) 256 := by rw [ht, hs, hK]; rfl
      have HNx : Kp (spP a e j ++ [s] = spP a e (j + 1)) := ⟨by rw [hs, hkj, HN.out.2]; exact spP_snoc a e j⟩
      have HPx : Kp (spP a e (j + 1) <+: spP a e N) := ⟨spP_pre a e (j + 1) N (by omega)⟩
      obtain ⟨fn, tmps, assign, body, hy, hR⟩ := HY.out (spP a e j) s wr HJr.out (by rw [spP_length]; omega)
      dsimp only [spV] at hy
      rw [hsk, ← hf, ← ht] at hy
      have HRd : Kp _ := ⟨hR⟩
      have hreg : j + g2 + 1 = N := by omega
      have hkm : k ≤ 300 := by omega
      have hca : (K ≤ a ∧ (f : Int) = (a : Int) - (K : Int)) ∨ (a < K ∧ f = 0) := by omega
      have hcb : (e ≤ K + 256 ∧ (t : Int) = (e : Int) - (K : Int)) ∨ (K + 256 < e ∧ t = 256) := by omega
      clear hR hs hsk hf ht hf' ht' HJr hkj hK HKk HJd
      rcases hca with ⟨ca1, ca2⟩ | ⟨ca1, rfl⟩ <;> rcases hcb with ⟨cb1, cb2⟩ | ⟨cb1, rfl⟩
      · have q1 : (a : Int) - (K : Int) = (f : Int) := by omega
        have q3 : (0 : Int) ≤ (f : Int) := by omega
        clear ca2
        have q2 : (e : Int) - (K : Int) = (t : Int) := by omega
        have q4 : (t : Int) ≤ 256 := by omega
        clear cb2
        go_upto_region 4 with fail
        refine (wpIn_wide (n := 7)).1 ?_
        gi_wp2
        refine HRd.out.mono ?_
        rintro r W3 (⟨rfl, hJ3, hk3, _⟩ | ⟨rfl, hJx3, _⟩)
        · have HJ3 : Kp _ := ⟨hJ3⟩
          have HE3 : Kp _ := ⟨HE.out.trans hk3⟩
          rw [HNx.out] at HJ3
          clear hJ3 hk3 HRd q1 q2 q3 q4 r1 r2 cb cc
          gi_wp2
          go_wp2
          go_roundg g2
          case measure => omega
          case rel => exact ⟨k + 1, j + 1, by omega, ⟨by rw [HKj.out]; rfl⟩, by go_num, HJ3, HE3⟩
        · rw [HNx.out] at hJx3
          have HJx : Kp _ := ⟨hJx3⟩
          clear hJx3 HRd
          gi_wp2
          go_wp2
          refine bodyPost_ret (results_none rfl _ _ _) rfl ?_
          exact ⟨⟨_, rfl⟩, .inr ⟨_, by rw [HS.out]; exact HPx.out, HJx.out⟩⟩
      · have q1 : (a : Int) - (K : Int) = (f : Int) := by omega
        have q3 : (0 : Int) ≤ (f : Int) := by omega
        clear ca2
        obtain ⟨z2, hz2⟩ : ∃ x : Int, x = (e : Int) - (K : Int) := ⟨_, rfl⟩
        have q2 : (e : Int) - (K : Int) = z2 := by omega
        rw [show ((256 : Nat) : Int) = 256 from rfl] at hy
        have q4 : 256 < z2 := by omega
        clear hz2
        go_upto_region 4 with fail
        refine (wpIn_wide (n := 7)).1 ?_
        gi_wp2
        refine HRd.out.mono ?_
        rintro r W3 (⟨rfl, hJ3, hk3, _⟩ | ⟨rfl, hJx3, _⟩)
        · have HJ3 : Kp _ := ⟨hJ3⟩
          have HE3 : Kp _ := ⟨HE.out.trans hk3⟩
          rw [HNx.out] at HJ3
          clear hJ3 hk3 HRd q1 q2 q3 q4 r1 r2 cb cc
          gi_wp2
          go_wp2
          go_roundg g2
          case measure => omega
          case rel => exact ⟨k + 1, j + 1, by omega, ⟨by rw [HKj.out]; rfl⟩, by go_num, HJ3, HE3⟩
        · rw [HNx.out] at hJx3
          have HJx : Kp _ := ⟨hJx3⟩
          clear hJx3 HRd
          gi_wp2
          go_wp2
          refine bodyPost_ret (results_none rfl _ _ _) rfl ?_
          exact ⟨⟨_, rfl⟩, .inr ⟨_, by rw [HS.out]; exact HPx.out, HJx.out⟩⟩
      · obtain ⟨z1, hz1⟩ : ∃ x : Int, x = (a : Int) - (K : Int) := ⟨_, rfl⟩
        have q1 : (a : Int) - (K : Int) = z1 := by omega
        rw [show ((0 : Nat) : Int) = 0 from rfl] at hy
        have q3 : z1 < 0 := by omega
        clear hz1
        have q2 : (e : Int) - (K : Int) = (t : Int) := by omega
        have q4 : (t : Int) ≤ 256 := by omega
        clear cb2
        go_upto_region 4 with fail
        refine (wpIn_wide (n := 7)).1 ?_
        gi_wp2
        refine HRd.out.mono ?_
        rintro r W3 (⟨rfl, hJ3, hk3, _⟩ | ⟨rfl, hJx3, _⟩)
        · have HJ3 : Kp _ := ⟨hJ3⟩
          have HE3 : Kp _ := ⟨HE.out.trans hk3⟩
          rw [HNx.out] at HJ3
          clear hJ3 hk3 HRd q1 q2 q3 q4 r1 r2 cb cc
          gi_wp2
          go_wp2
          go_roundg g2
          case measure => omega
          case rel => exact ⟨k + 1, j + 1, by omega, ⟨by rw [HKj.out]; rfl⟩, by go_num, HJ3, HE3⟩
        · rw [HNx.out] at hJx3
          have HJx : Kp _ := ⟨hJx3⟩
          clear hJx3 HRd
          gi_wp2
          go_wp2
          refine bodyPost_ret (results_none rfl _ _ _) rfl ?_
          exact ⟨⟨_, rfl⟩, .inr ⟨_, by rw [HS.out]; exact HPx.out, HJx.out⟩⟩
      · obtain ⟨z1, hz1⟩ : ∃ x : Int, x = (a : Int) - (K : Int) := ⟨_, rfl⟩
        have q1 : (a : Int) - (K : Int) = z1 := by omega
        rw [show ((0 : Nat) : Int) = 0 from rfl] at hy
        have q3 : z1 < 0 := by omega
        clear hz1
        obtain ⟨z2, hz2⟩ : ∃ x : Int, x = (e : Int) - (K : Int) := ⟨_, rfl⟩
        have q2 : (e : Int) - (K : Int) = z2 := by omega
        rw [show ((256 : Nat) : Int) = 256 from rfl] at hy
        have q4 : 256 < z2 := by omega
        clear hz2
        go_upto_region 4 with fail
        refine (wpIn_wide (n := 7)).1 ?_
        gi_wp2
        refine HRd.out.mono ?_
        rintro r W3 (⟨rfl, hJ3, hk3, _⟩ | ⟨rfl, hJx3, _⟩)
        · have HJ3 : Kp _ := ⟨hJ3⟩
          have HE3 : Kp _ := ⟨HE.out.trans hk3⟩
          rw [HNx.out] at HJ3
          clear hJ3 hk3 HRd q1 q2 q3 q4 r1 r2 cb cc
          gi_wp2
          go_wp2
          go_roundg g2
          case measure => omega
          case rel => exact ⟨k + 1, j + 1, by omega, ⟨by rw [HKj.out]; rfl⟩, by go_num, HJ3, HE3⟩
        · rw [HNx.out] at hJx3
          have HJx : Kp _ := ⟨hJx3⟩
          clear hJx3 HRd
          gi_wp2
          go_wp2
          refine bodyPost_ret (results_none rfl _ _ _) rfl ?_
          exact ⟨⟨_, rfl⟩, .inr ⟨_, by rw [HS.out]; exact HPx.out, HJx.out⟩⟩
end
end Go.Proofs.Ytmiobgongddaiaa
