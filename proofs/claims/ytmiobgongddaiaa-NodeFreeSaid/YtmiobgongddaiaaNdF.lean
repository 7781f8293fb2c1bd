/- The contracts of package node's fields: pointer, right, bytes, read. -/
import Derived.Test.YtmiobgongddaiaaNdT
import Derived.Test.YtmiobgongddaiaaApart
import Derived.Deep.QuietTactic
import Derived.Deep.RegionWith
import Derived.StillTailTactics
namespace Go.Proofs.Ytmiobgongddaiaa
open Go.RowKit

/-- a field, as cells -/
def fdL (g o wd m : Nat) : List Value := [.pointer (some ⟨g, o, none⟩), .int .i64 (wd : Int), .int .i64 (m : Int)]
theorem fdL_one (g o wd m : Nat) : ∀ u ∈ fdL g o wd m, u.oneCell' = true := by
  intro u hu
  simp only [fdL, List.mem_cons, List.not_mem_nil, or_false] at hu
  rcases hu with rfl | rfl | rfl <;> rfl
theorem own_base {w : World} {b base : Nat} {e : TypeId} {v : Value} {n : Nat} {xs : List Value} (h : w.ownsRow base e 1 v n xs) (hb : b ≤ base) : w.ownsRow b e 1 v n xs := by
  refine ⟨h.1, ?_⟩
  rcases h.2 with ⟨rfl, rfl⟩ | ⟨g, cap, cur, rfl, hg, hh, hn, hm, hs, ht⟩
  · exact .inl ⟨rfl, rfl⟩
  · exact .inr ⟨g, cap, cur, rfl, Nat.le_trans hb hg, hh, hn, hm, hs, ht⟩
section
variable {P : Program} {w : World} {ops : Array Oper} {rest : List Oper} {o : Oper} {a : Act} {Q : Act → Prop} {t e : TypeId} {z : Value} {bytes : Nat}
/-- x[:k] of bytes, where the order is drawn -/
theorem wpStill_cut_h (E : El P t e z bytes) (hg : o.guard = none) (x hi : Operand) (hop : o.op = Op.slice t x none (some hi) none)
    {L : Nat} {A : Option Addr} {n c : Nat} {l : List UInt8} (hx : a.eval x = .slice A n c) (hb : Bs w L A n c l) (k : IntKind) (I : Int) (i : Nat) (hhi : a.eval hi = .int k I) (hI : I = i) (hi : i ≤ n)
    (h : ∀ A', Bs w L A' i c (l.take i) → wpStill P ops w Q rest (a.put o.dst (.slice A' i c))) : wpStill P ops w Q (o :: rest) a := by
  subst hI
  refine wpStill_step fun K hK => ?_
  have hw : Region.wanted o (yielded ops a.tmps) = true := by simp [Region.wanted, hg]
  rw [if_pos hw]
  have hcap := hb.cap
  have hrun := run_slice_h (P := P) (w := w) t A n c E.ty' k (i : Int) (by omega) (by omega)
  rw [E.sizeOf] at hrun
  have h2 := hb.cut (i := 0) (k := i) (Nat.zero_le _) hi
  rw [List.drop_zero, Nat.sub_zero, Nat.sub_zero] at h2
  unfold Oper.still
  simp [execOp, hop, hx, hhi, run_sliceAt_slice (P := P) (w := w) t _ _ _ _ E.ty', hrun, Result.andThen, sliced, Oper.stillUpon]
  exact hK _ (h _ h2)
end
theorem fd_cells {W : World} {G g o wd m : Nat} {t : TypeId} (h : Blk W G t (fdL g o wd m)) : W.cell? ⟨G, 0, none⟩ = some (.pointer (some ⟨g, o, none⟩)) ∧ W.cell? ⟨G, 1, none⟩ = some (.int .i64 (wd : Int)) ∧ W.cell? ⟨G, 2, none⟩ = some (.int .i64 (m : Int)) := ⟨h.cell? 0, h.cell? 1, h.cell? 2⟩
section
set_option maxHeartbeats 1000000
theorem pointer_any (g o : Nat) (w : World) :
    Calls Try.prog 34 #[.pointer (some ⟨g, o, none⟩)] w fun e w' => e = .returned (.agg (fdL g o 4 4095).toArray) ∧ Below w.heap.size w w' := by
  go_enter Try.func34, Try.ntmps34
  go_wp2_with (with_reducible refine wpList_alloc tyFd rfl rfl ?_)
  intro w1 hk1 hb1 _
  have HK : Kp _ := ⟨hk1⟩
  clear hk1
  go_wp2_with (with_reducible refine wpList_storeAll rwFd rfl _ _ rfl rfl HK.out (n := 3) rfl (vs := fdL g o 4 4095) rfl (fdL_one _ _ _ _) rfl ?_)
  intro w2 hk2 ho2
  have HK2 : Kp _ := ⟨hk2⟩
  have HB : Kp (Below w.heap.size w w2) := ⟨hb1.trans (ho2.below (Nat.le_refl _))⟩
  clear hk2 HK hb1 ho2
  go_wp2
  refine ret_arr rfl rwFd rfl HK2.out rfl rfl ?_
  exact ⟨rfl, HB.out⟩
theorem fright_any (g o wd m : Nat) (z : Int) (w : World) (hc : w.cell? ⟨g, o, none⟩ = some (.int .i64 z)) (hg : g < w.heap.size) :
    Calls Try.prog 35 #[.agg (fdL g o wd m).toArray] w fun e w' => e = .returned (.bool (fitB z m)) ∧ Below w.heap.size w w' := by
  have hb : Below w.heap.size w (w.alloc (.cells (fdL g o wd m).toArray 62)) := (Below.refl _ _).alloc (Nat.le_refl _) _
  have hk : Blk (w.alloc (.cells (fdL g o wd m).toArray 62)) w.heap.size 62 (fdL g o wd m) := Blk.new w _ _
  have hc1 := (hb.cell (p := ⟨g, o, none⟩) hg).trans hc
  obtain ⟨k0, k1, k2⟩ := fd_cells hk
  have HB : Kp _ := ⟨hb⟩
  clear hk hb hc
  by_cases h0 : 0 ≤ z
  · have hz : fitB z m = decide (z ≤ (m : Int)) := by unfold fitB; rw [decide_eq_true h0, Bool.true_and]
    rw [hz]
    go_enter Try.func35, Try.ntmps35
    go_wp2
    generalize w.alloc (.cells (fdL g o wd m).toArray 62) = w1 at *
    go_quiet (fail)
    go_wp2
    go_ret
    exact ⟨rfl, below_drewN HB.out _⟩
  · have hz : fitB z m = false := by unfold fitB; rw [decide_eq_false h0, Bool.false_and]
    rw [hz]
    have hd : decide (0 ≤ z) = false := decide_eq_false h0
    clear h0 hz
    go_enter Try.func35, Try.ntmps35
    go_wp2
    generalize w.alloc (.cells (fdL g o wd m).toArray 62) = w1 at *
    go_quiet (fail)
    go_wp2
    go_ret
    exact ⟨rfl, below_drewN HB.out _⟩
theorem fbytes_any (g o wd m : Nat) (z : Int) (w : World) (hc : w.cell? ⟨g, o, none⟩ = some (.int .i64 z)) (hg : g < w.heap.size) (h0 : 0 ≤ z) (h1 : z ≤ 9223372036854775807) (hw : wd ≤ 8) :
    Calls Try.prog 30 #[.agg (fdL g o wd m).toArray] w fun e w' => ∃ v, e = .returned v ∧ w'.ownsRow w.heap.size 5 1 v wd (cells8 (putN z.toNat wd)) ∧ Below w.heap.size w w' := by
  have hb : Below w.heap.size w (w.alloc (.cells (fdL g o wd m).toArray 62)) := (Below.refl _ _).alloc (Nat.le_refl _) _
  have hk : Blk (w.alloc (.cells (fdL g o wd m).toArray 62)) w.heap.size 62 (fdL g o wd m) := Blk.new w _ _
  have hs : (w.alloc (.cells (fdL g o wd m).toArray 62)).heap.size = w.heap.size + 1 := by simp
  obtain ⟨n, rfl⟩ := Int.eq_ofNat_of_zero_le h0
  have hc1 := (hb.cell (p := ⟨g, o, none⟩) hg).trans hc
  obtain ⟨k0, k1, _⟩ := fd_cells hk
  have HB : Kp _ := ⟨hb⟩
  have HS : Kp _ := ⟨hs⟩
  have HP : Kp (∀ W, Calls Try.prog 42 #[.int .u64 (n : Int), .int .i64 (wd : Int)] W fun e w' => ∃ v, e = .returned v ∧ w'.ownsRow W.heap.size 5 1 v wd (cells8 (putN n wd)) ∧ Below W.heap.size W w') := ⟨fun W => by
    have h := put_any n (wd : Int) W (by omega)
    rw [show (min (max (wd : Int) 0) 8).toNat = wd by omega] at h
    exact h⟩
  have hconv : IntKind.u64.wrap (n : Int) = (n : Int) := by rw [IntKind.wrap_u64]; omega
  clear hk hb hc h0 hs
  rw [show ((n : Nat) : Int).toNat = n from rfl]
  go_enter Try.func30, Try.ntmps30
  go_wp2
  generalize w.alloc (.cells (fdL g o wd m).toArray 62) = w1 at *
  go_still_tail 7, (by kernel_rfl)
  change wpList _ _ _ _ _ w1.drew
  replace HB : Kp (Below w.heap.size w w1.drew) := ⟨HB.out.drew⟩
  generalize w1.drew = w2 at *
  go_wp2_with fail
  refine (HP.out w2).mono ?_
  rintro e w3 ⟨v, rfl, hown, hb3⟩
  have HO : Kp _ := ⟨hown⟩
  have HB3 : Kp _ := ⟨hb3⟩
  clear hown hb3
  go_wp2
  go_ret
  exact ⟨v, rfl, own_base HO.out HB.out.size, HB.out.trans (HB3.out.mono HB.out.size)⟩
theorem fread_any (g o wd m L : Nat) (t : TypeId) (cs : List Value) (A : Option Addr) (n c : Nat) (b : List UInt8) (w : World) (hk : Blk w g t cs) (ho : o < cs.length) (hb : Bs w L A n c b) (hL : L ≤ g) (hwd : wd ≤ 4) (hn : wd ≤ n) :
    Calls Try.prog 37 #[.agg (fdL g o wd m).toArray, .slice A n c] w fun e w' => ∃ A' n' c', e = .returned (.slice A' n' c') ∧ Bs w' L A' n' c' (b.drop wd) ∧ Blk w' g t (cs.set o (.int .i64 (getN (b.take wd) : Nat))) ∧ w.grownBy w' (some g) := by
  have hb1 : Below w.heap.size w (w.alloc (.cells (fdL g o wd m).toArray 62)) := (Below.refl _ _).alloc (Nat.le_refl _) _
  have hF : Blk (w.alloc (.cells (fdL g o wd m).toArray 62)) w.heap.size 62 (fdL g o wd m) := Blk.new w _ _
  obtain ⟨F, hFe⟩ : ∃ F, F = w.heap.size := ⟨_, rfl⟩
  have hgF : g ≠ F := by have := hk.lt; omega
  rw [← hFe] at hF
  have hk1 := hk.below hb1 hk.lt
  have hbb := hb.below (hb1.mono (show L ≤ w.heap.size by have := hk.lt; omega))
  have HF : Kp _ := ⟨hF⟩
  obtain ⟨k0, k1, _⟩ := fd_cells hF
  have HK : Kp _ := ⟨hk1⟩
  have HBb : Kp _ := ⟨hbb⟩
  have HGF : Kp (g ≠ F) := ⟨hgF⟩
  have HO : Kp _ := ⟨ho⟩
  have HLg : Kp _ := ⟨hL⟩
  have HGr : Kp (w.grownBy (w.alloc (.cells (fdL g o wd m).toArray 62)) (some g)) := ⟨⟨hb1.os, hb1.tape, hb1.output, hb1.size, fun k hk _ => hb1.block k hk⟩⟩
  obtain ⟨q, hq⟩ : ∃ q, q = getN (b.take wd) := ⟨_, rfl⟩
  have hq63 : q < 9223372036854775808 := by
    have h1 := getN_lt (b.take wd)
    have h2 : 256 ^ (b.take wd).length ≤ 256 ^ 4 := Nat.pow_le_pow_right (by decide) (by simp; omega)
    rw [← hq] at h1
    omega
  have HG : Kp (∀ (A' : Option Addr) (W : World), Bs W L A' wd c (b.take wd) → Calls Try.prog 44 #[.slice A' wd c] W fun e w' => e = .returned (.int .u64 (q : Int)) ∧ w' = W) := ⟨fun A' W h => by
    have h2 := get_any A' wd c (b.take wd) W L h
    rw [show wd - 8 = 0 by omega, List.drop_zero, ← hq] at h2
    exact h2.mono fun e w' h => ⟨h.1, h.2.symm⟩⟩
  have hconv : IntKind.i64.wrap (q : Int) = (q : Int) := by rw [IntKind.wrap_i64]; omega
  rw [← hq]
  clear hb1 hF hk1 hbb hgF ho hL hk hb hq
  go_enter Try.func37, Try.ntmps37
  go_wp2
  rw [← hFe]
  generalize w.alloc (.cells (fdL g o wd m).toArray 62) = w1 at *
  clear hFe
  refine wp_region_still_tail 8 (by kernel_rfl) (by kernel_rfl) ?_
  simp only [List.take_succ_cons, List.take_zero, List.drop_succ_cons, List.drop_zero]
  change wpStill _ _ w1.drew (fun a' => wpList _ _ _ _ a' w1.drew) _ _
  replace HBb : Kp _ := ⟨HBb.out.drew⟩
  replace HK : Kp _ := ⟨HK.out.drew⟩
  replace HGr : Kp _ := ⟨grown_trans HGr.out (grown_drew _ _)⟩
  replace k0 : w1.drew.cell? ⟨F, 0, none⟩ = some (.pointer (some ⟨g, o, none⟩)) := k0
  replace k1 : w1.drew.cell? ⟨F, 1, none⟩ = some (.int .i64 (wd : Int)) := k1
  generalize w1.drew = w2 at *
  repeat still_step
  refine wpStill_cut_h (o := ⟨some 10, _, _, _, _, _⟩) el8 rfl (.tmp 7) (.tmp 9) rfl rfl HBb.out .i64 (wd : Int) wd rfl rfl hn ?_
  intro A1 hbA
  have HA := HG.out A1 w2 hbA
  have HCl : Kp _ := ⟨HA⟩
  clear hbA HA
  still_call HCl.out
  repeat still_step
  try refine wpStill_nil ?_
  clear HCl
  have hc := HK.out.cell HO.out
  have hf := HK.out.frozen o
  have HK2 : Kp _ := ⟨HK.out.set o (.int .i64 (q : Int))⟩
  have HGr2 : Kp _ := ⟨grown_trans HGr.out (grown_set w2 g o (.int .i64 (q : Int)))⟩
  have hO : Only g w2 (w2.setCell ⟨g, o, none⟩ (.int .i64 (q : Int))) := Only.setCell w2 ⟨g, o, none⟩ _
  have HB2 : Kp _ := ⟨HBb.out.below ((hO.below (Nat.le_refl _)).mono HLg.out)⟩
  have k1s : (w2.setCell ⟨g, o, none⟩ (.int .i64 (q : Int))).cell? ⟨F, 1, none⟩ = some (.int .i64 (wd : Int)) := by
    rw [← k1]
    unfold World.cell?
    rw [hO.block F (fun e => HGF.out e.symm)]
  clear hO HBb HK HGr k0 k1
  go_wp2_with (with_reducible refine wpList_cut_l (o := ⟨some 17, _, _, _, _, _⟩) el8 rfl _ _ rfl rfl HB2.out _ _ wd rfl rfl hn ?_)
  intro A2 m2 d2 hcut
  have HCut : Kp _ := ⟨hcut⟩
  clear hcut
  go_wp2
  go_ret
  exact ⟨_, _, _, rfl, HCut.out, HK2.out, HGr2.out⟩
end
end Go.Proofs.Ytmiobgongddaiaa
