/- The contracts of audit's without and of the function that it hands back.
   Rows of things at places that a call lays itself: append to them, and what they read as. No program is named here.
   The contract of bytes.Clone; what audit's without hands back tells; what a round of a range over it may turn.
   A region that draws its order, within a round of a range over a function, walked as anywhere. No program is named here. -/
import Derived.Test.YthpfiieaanioeaaG04
import Derived.Test.YthpfiieaanioeaaG08
import Derived.Test.YthpfiieaanioeaaG02
import Derived.Deep.Matrix
import Derived.Great.BuildSlice
namespace Go.Proofs.Ythpfiieaanioeaa
open Go.RowKit Go.Shelf

/-- a thing, and where its bytes lie -/
abbrev Hx := (Option Addr × Nat × Nat) × Th
def GdIt (w : World) (B : Nat) (x : Hx) : Prop := (Lit.int .i64 x.2.1).wf = true ∧ Bs w B x.1.1 x.1.2.1 x.1.2.2 x.2.2 ∧ x.1.2.1 ≤ 4294967296
abbrev YIt (w : World) (B : Nat) := {x : Hx // GdIt w B x}
def encI {w : World} {B : Nat} (x : YIt w B) : Array Value := #[.agg #[.int .i64 x.1.2.1, .slice x.1.1.1 x.1.1.2.1 x.1.1.2.2]]
def thsL {w : World} {B : Nat} (ys : List (YIt w B)) : List Th := ys.map fun y => y.1.2
theorem thsL_snoc {w : World} {B : Nat} (ys : List (YIt w B)) (y : YIt w B) : thsL (ys ++ [y]) = thsL ys ++ [y.1.2] := by simp [thsL]
theorem thsL_length {w : World} {B : Nat} (ys : List (YIt w B)) : (thsL ys).length = ys.length := by simp [thsL]
/-- what a round keeps: all below B, two blocks, and all maps -/
structure KpW (B Bl Bk : Nat) (X Y : World) : Prop where
  e : KpE B Bl Bk X Y
  walks : KeepsWalks X Y
section
variable {B Bl Bk : Nat} {X Y Z : World}
theorem KpW.trans (h : KpW B Bl Bk X Y) (k : KpW B Bl Bk Y Z) : KpW B Bl Bk X Z := ⟨h.e.trans k.e, h.walks.trans k.walks⟩
theorem KpW.put {S : Nat} {W : World} {l : Nat} {o o' : Obj} (hl : S ≤ l) (h : W.heap[l]? = some o) (_hc : o.isCells = false) (hw : o.isWalk = false) (hB : B ≤ S) (hBl : Bl < S) (hBk : Bk < S) : KpW B Bl Bk W (W.putObj l o') := by
  have hlt := (Array.getElem?_eq_some_iff.1 h).1
  refine ⟨KpE.grown (grownBy_putObj' W l o') (fun g e => by cases e; omega) (by omega) (by omega) (by omega), ⟨by simp, fun k o2 hk ho => ?_⟩⟩
  refine (World.putObj_heap_other (fun e => ?_)).trans hk
  subst e
  rw [h] at hk
  cases hk
  rw [hw] at ho
  cases ho
theorem KeepsWalks.below (h : Below X.heap.size X Y) : KeepsWalks X Y := ⟨h.size, fun k _ hk _ => (h.block k (Array.getElem?_eq_some_iff.1 hk).1).trans hk⟩
theorem KpW.of_below (h : Below X.heap.size X Y) (hB : B ≤ X.heap.size) (hl : Bl < X.heap.size) (hk : Bk < X.heap.size) : KpW B Bl Bk X Y := ⟨KpE.of_below h hB hl hk, KeepsWalks.below h⟩
theorem grow_only {g : Nat} (h : X.grownBy Y (some g)) (ho : Only g Y Z) : X.grownBy Z (some g) :=
  ⟨ho.os.trans h.os, ho.tape.trans h.tape, ho.output.trans h.output, by rw [ho.size]; exact h.size, fun k hk hne => (ho.block k (fun e => hne (by rw [e]))).trans (h.block k hk hne)⟩
theorem grow_below {g : Nat} (h : Below X.heap.size X Y) : X.grownBy Y (some g) := ⟨h.os, h.tape, h.output, h.size, fun k hk _ => h.block k hk⟩
theorem MapI.walk {P : Program} {k : TypeId} {κ : Type} {kv : κ → Value} {ok : κ → Prop} {b n : Nat} {f : κ → Option Value} (h : MapI X P k kv ok b n f) : ∃ o : Obj, X.heap[b]? = some o ∧ o.isWalk = true := by
  obtain ⟨es, ck, h1⟩ := h.heap
  exact ⟨_, h1, rfl⟩
theorem MapI.kept {P : Program} {k : TypeId} {κ : Type} {kv : κ → Value} {ok : κ → Prop} {b n : Nat} {f : κ → Option Value} (h : MapI X P k kv ok b n f) (hw : KeepsWalks X Y) : MapI Y P k kv ok b n f := by
  obtain ⟨o, h1, h2⟩ := h.walk
  exact h.stay ((hw.same b o h1 h2).trans h1.symm)
end
theorem cntG_down (c g : Th → Nat) (x : Th) (g1 : Nat) (h0 : 0 < g x) (hc : g x ≤ c x) (h1 : g1 = g x - 1) : (fun y => if y = x then some (Value.int .i64 (g1 : Int)) else cntG c g y) = cntG c (fun y => if y = x then g x - 1 else g y) := by
  funext y
  unfold cntG
  by_cases hy : y = x
  · subst hy
    show _ = if c y = 0 then none else some (Value.int .i64 ((if y = y then g y - 1 else g y : Nat) : Int))
    rw [if_pos rfl, if_pos rfl, if_neg (by omega), h1]
  · show _ = if c y = 0 then none else some (Value.int .i64 ((if y = x then g x - 1 else g y : Nat) : Int))
    rw [if_neg hy, if_neg hy]
theorem cntG_some (c g : Th → Nat) (x : Th) (h0 : 0 < g x) (hc : g x ≤ c x) : (cntG c g x).isSome = true := by
  unfold cntG
  rw [if_neg (by omega)]
  rfl
theorem minusF_more (x : Th) (r : List Th) (g : Th → Nat) (h : 0 < g x) : minusF (x :: r) g = minusF r (fun y => if y = x then g x - 1 else g y) := by
  conv => lhs; unfold minusF
  rw [if_pos h]
theorem minusF_keep (x : Th) (r : List Th) (g : Th → Nat) (h : g x = 0) : minusF (x :: r) g = x :: minusF r g := by
  conv => lhs; unfold minusF
  rw [if_neg (by omega)]
section
attribute [local go_sem] Oper.semAt_some
set_option maxRecDepth 100000 in
set_option maxHeartbeats 4000000 in
theorem without1_in (n : Nat) (l Bl Bk n₀ : Nat) (A : Option Addr) (m c : Nat) (its : List Th) (K : Option Addr) (kn kc : Nat) (bs : List Th) (w0 : World) (J Jx : List (YIt w0 n₀) → World → Prop) (W : World)
    (hJ : AbidesFrom W.heap.size J) (hW0 : Below n₀ w0 W) (hW : n₀ ≤ W.heap.size)
    (hY : ∀ pre x X, J pre X → pre.length < m → YieldAt Fence.wide (n - 1) Try.prog l (encI x) X fun e X' => (e = .returned (.bool true) ∧ J (pre ++ [x]) X' ∧ KpW n₀ Bl Bk X X') ∨ (e = .returned (.bool false) ∧ Jx (pre ++ [x]) X'))
    (hBl : W.cell? ⟨Bl, 0, none⟩ = some (.slice A m c)) (hBk : W.cell? ⟨Bk, 0, none⟩ = some (.slice K kn kc)) (hl : Bl < W.heap.size) (hk : Bk < W.heap.size) (hI : Its w0 n₀ A m c its) (hK : Its w0 n₀ K kn kc bs)
    (hm : m ≤ 4294967296) (hkn : kn ≤ 4294967296) (hbl : ∀ x ∈ its, x.2.length ≤ 4294967296) (h0 : J [] W) :
    CallsIn Fence.wide n Try.prog 30 #[.func (.yield l) #[] #[], .pointer (some ⟨Bk, 0, none⟩), .pointer (some ⟨Bl, 0, none⟩)] W fun e W' => (∃ v, e = .returned v) ∧ ((∃ ys, thsL ys = minusL its bs ∧ J ys W') ∨ (∃ pre, thsL pre <+: minusL its bs ∧ Jx pre W')) := by
  have HI : Kp _ := ⟨hI⟩
  have HJ : Kp _ := ⟨hJ⟩
  have HY : Kp _ := ⟨hY⟩
  have HL : Kp _ := ⟨hI.len⟩
  have HBl4 : Kp _ := ⟨hbl⟩
  clear hbl
  have H0 : Kp _ := ⟨h0⟩
  have HBl : Kp _ := ⟨hBl⟩
  have HKn : Kp (bs.length ≤ 4294967296) := ⟨by rw [hK.len]; exact hkn⟩
  have HW0 : Kp _ := ⟨hW0⟩
  have hm63 : m ≤ 9223372036854775807 := hI.le
  have HKw : Kp (Its W W.heap.size K kn kc bs) := ⟨(hK.below hW0).more hW⟩
  clear hI hJ hY h0 hK hW0
  refine callsIn_of_wp Try.func30 rfl trivial ?_ rfl
  simp only [Try.ntmps30, List.size_toArray, List.length_cons, List.length_nil, Nat.reduceAdd, Nat.reduceSub, Array.replicate_succ, Array.replicate_zero, List.push_toArray, List.append_toArray, List.nil_append, List.cons_append]
  refine wpIn_wide.2 ?_
  go_wp2_with fail
  refine (counted_any K kn kc bs W HKw.out hkn).mono ?_
  rintro e W1 ⟨gm, mn, rfl, hgm, hb1, hmn, hM1⟩
  have HM1 : Kp _ := ⟨hM1⟩
  have HJ1 : Kp (J [] W1) := ⟨HJ.out _ _ _ none H0.out (grown_none hb1) (fun r e => by cases e)⟩
  have HE1 : Kp (KpE n₀ Bl Bk W W1) := ⟨KpE.of_below hb1 hW hl hk⟩
  have hBl1 : W1.cell? ⟨Bl, 0, none⟩ = some (.slice A m c) := HE1.out.cell_l HBl.out
  have HGm : Kp (W.heap.size ≤ gm) := ⟨hgm⟩
  have HMn : Kp (mn < maxLen) := ⟨by simp only [maxLen]; omega⟩
  clear hM1 hb1 hBk hBl hgm hmn H0 HKw
  go_wp2
  go_loopg [12] m (fun gk v12 wr => ∃ (k : Nat) (g : Th → Nat) (pre : List (YIt w0 n₀)), k + gk = m ∧ v12 = .int .i64 k ∧ Kp (J pre wr) ∧ Kp (KpE n₀ Bl Bk W wr) ∧ Kp (MapI wr Try.prog 61 kvT okT gm mn (cntG (cntL bs) g)) ∧ Kp (∀ x, g x ≤ cntL bs x) ∧ Kp (thsL pre ++ minusF (its.drop k) g = minusL its bs) ∧ Kp (pre.length ≤ k))
  case atStart => exact ⟨0, cntL bs, [], by omega, rfl, HJ1, HE1, HM1, ⟨fun x => Nat.le_refl _⟩, ⟨rfl⟩, ⟨Nat.le_refl _⟩⟩
  case round =>
    clear HM1 HJ1 HE1 hBl1
    obtain ⟨k, g, pre, hkm, rfl, HJr, HE, HM, HG, HR, HP⟩ := hrel
    cases gk with
    | zero =>
      have hlt : ¬ ((k : Int) < (m : Int)) := by omega
      have HKe : Kp (k = m) := ⟨by omega⟩
      go_wp2
      go_end0
      refine ⟨⟨_, rfl⟩, .inl ⟨pre, ?_, HJr.out⟩⟩
      have h := HR.out
      rwa [HKe.out, List.drop_of_length_le (by rw [HL.out]; exact Nat.le_refl _), show minusF [] g = [] from rfl, List.append_nil] at h
    | succ g2 =>
      have hlt : (k : Int) < (m : Int) := by omega
      have hin : k < m := by omega
      have hil : k < its.length := by rw [HL.out]; exact hin
      have hB := HE.out.below
      have hnr : n₀ ≤ wr.heap.size := Nat.le_trans hW hB.size
      obtain ⟨ba, oa, A', n', c', rfl, hbl, hc1, hc2, hbs⟩ := (HI.out.below (HW0.out.trans hB)).at hin
      obtain ⟨_, _, A2, n2, c2, hA2, _, hd1, hd2, hbs0⟩ := HI.out.at hin
      obtain ⟨z, hz⟩ : ∃ z, z = (its[k]'hil).1 := ⟨_, rfl⟩
      obtain ⟨b, hb⟩ : ∃ l, l = (its[k]'hil).2 := ⟨_, rfl⟩
      have HX : Kp ((z, b) = its[k]'hil) := ⟨by rw [hz, hb]⟩
      have hwz : (Lit.int .i64 z).wf = true := by rw [hz]; exact HI.out.wf _ (List.getElem_mem hil)
      have HOk : Kp (okT (z, b)) := ⟨⟨hwz, by show b.length ≤ maxLen; rw [hb, hbs.len]; exact Nat.le_trans hbs.cap hbs.max⟩⟩
      rw [← hz] at hc1
      rw [← hb] at hbs
      have HN4 : Kp (n' ≤ 4294967296) := ⟨by rw [← hbs.len, hb]; exact HBl4.out _ (List.getElem_mem hil)⟩
      have HGd : Kp (∀ X : World, Bs w0 n₀ A' n' c' b) := ⟨fun _ => by
        have e1 := (Option.some.inj hA2)
        injection e1 with e2 e3
        subst e2 e3
        have h3 := hd2
        have h4 := hc2
        rw [(HW0.out.trans hB).cell hbl] at h4
        rw [h3] at h4
        injection h4 with h5
        injection h5 with h6 h7 h8
        rw [h6, h7, h8, ← hb] at hbs0
        exact hbs0⟩
      have HBs : Kp _ := ⟨hbs⟩
      obtain ⟨gx, hgx⟩ : ∃ gx, gx = g (z, b) := ⟨_, rfl⟩
      have HGx : Kp (gx = g (z, b)) := ⟨hgx⟩
      have HGet : Kp ((cntG (cntL bs) g (z, b)).getD (.int .i64 0) = .int .i64 (gx : Int)) := ⟨by rw [hgx]; exact cntG_get _ _ _ (HG.out _)⟩
      have hwl : wr.heap.size < wr.heap.size + 1 := by omega
      have hb3 : Below wr.heap.size wr (wr.alloc (.cells #[.int .i64 z, .slice A' n' c'] 30)) := (Below.refl _ wr).alloc (Nat.le_refl _) _
      have HB3 : Kp (Bs (wr.alloc (.cells #[.int .i64 z, .slice A' n' c'] 30)) (wr.alloc (.cells #[.int .i64 z, .slice A' n' c'] 30)).heap.size A' n' c' b) := ⟨(HBs.out.below (hb3.mono hnr)).more (by simp; omega)⟩
      have HMs : Kp (gm ≠ wr.heap.size) := ⟨fun e => by have h1 := HM.out.lt; omega⟩
      clear hz hb hgx hd1 hd2 hbs0 hA2 hbs hwz
      go_wp2_with fail
      refine (thing_any z A' n' c' b _ HB3.out).mono ?_
      rintro e w4 ⟨rfl, hb4⟩
      have hb4' : Below wr.heap.size wr w4 := hb3.trans (hb4.mono (by simp))
      have HI4 : Kp (Blk w4 wr.heap.size 30 [.int .i64 z, .slice A' n' c']) := ⟨(Blk.new _ _ _).below hb4 (by simp)⟩
      have hb6 : Below wr.heap.size wr (w4.alloc (.cells #[.int .i64 z, .string ⟨b.toArray⟩] 61)) := hb4'.trans ((Below.refl _ _).alloc hb4'.size _)
      have HT6 : Kp (Blk (w4.alloc (.cells #[.int .i64 z, .string ⟨b.toArray⟩] 61)) w4.heap.size 61 [.int .i64 z, .string ⟨b.toArray⟩]) := ⟨Blk.new _ _ _⟩
      have HI6 : Kp (Blk (w4.alloc (.cells #[.int .i64 z, .string ⟨b.toArray⟩] 61)) wr.heap.size 30 [.int .i64 z, .slice A' n' c']) := ⟨HI4.out.alloc _⟩
      have HM6 : Kp (MapI (w4.alloc (.cells #[.int .i64 z, .string ⟨b.toArray⟩] 61)) Try.prog 61 kvT okT gm mn (cntG (cntL bs) g)) := ⟨HM.out.stay (hb6.block _ HM.out.lt)⟩
      have hlook : (Instr.lookup 58 (.map (some gm)) (.agg #[.int .i64 z, .string ⟨b.toArray⟩]) false).run Try.prog (w4.alloc (.cells #[.int .i64 z, .string ⟨b.toArray⟩] 61)) = .ok (.int .i64 (gx : Int)) (w4.alloc (.cells #[.int .i64 z, .string ⟨b.toArray⟩] 61)) := by
        have h := HM6.out.look keyT Try.underlying58 (z := .int .i64 0) rfl (x := (z, b)) HOk.out
        rw [HGet.out] at h
        exact h
      have hlt6 : wr.heap.size < w4.heap.size := HI4.out.lt
      have hi0 : w4.cell? ⟨wr.heap.size, 0, none⟩ = some (.int .i64 z) := HI4.out.cell? 0
      have hi1 : w4.cell? ⟨wr.heap.size, 1, none⟩ = some (.slice A' n' c') := HI4.out.cell? 1
      have HMlt : Kp (gm < wr.heap.size) := ⟨HM.out.lt⟩
      clear hb3 HB3 hb4 hb4' HI4 HM hc1 hc2
      simp only [kvT]
      rcases Nat.eq_zero_or_pos gx with hg0 | hg0
      · subst hg0
        have HJ6 : Kp (J pre (w4.alloc (.cells #[.int .i64 z, .string ⟨b.toArray⟩] 61))) := ⟨HJ.out _ _ _ none HJr.out (grown_none hb6) (fun r e => by cases e)⟩
        have HE6 : Kp (KpE n₀ Bl Bk W (w4.alloc (.cells #[.int .i64 z, .string ⟨b.toArray⟩] 61))) := ⟨HE.out.trans (KpE.of_below hb6 hnr (by have := HE.out.below.size; omega) (by have := HE.out.below.size; omega))⟩
        obtain ⟨fn, tmps, assign, body, hy, hR⟩ := HY.out pre ⟨((A', n', c'), (z, b)), HOk.out.1, HGd.out wr, HN4.out⟩ _ HJ6.out (by have := HP.out; omega)
        dsimp only [encI] at hy
        have HRd : Kp _ := ⟨hR⟩
        have HRn : Kp (thsL (pre ++ [(⟨((A', n', c'), (z, b)), HOk.out.1, HGd.out wr, HN4.out⟩ : YIt w0 n₀)]) ++ minusF (its.drop (k + 1)) g = minusL its bs) := ⟨by
          have h := HR.out
          rw [List.drop_eq_getElem_cons hil, ← HX.out, minusF_keep _ _ _ HGx.out.symm] at h
          rw [thsL_snoc, List.append_assoc]
          exact h⟩
        clear hR HR HX HGx HGet HJ6
        go_upto_region 7 with fail
        refine (wpIn_wide (n := n)).1 ?_
        gi_wp2
        refine ⟨(fun h => by cases h), HRd.out.mono ?_⟩
        rintro e W3 (⟨rfl, hJ3, hk3⟩ | ⟨rfl, hJx3⟩)
        · have HM9 : Kp _ := ⟨HM6.out.kept hk3.walks⟩
          have HE9 : Kp _ := ⟨HE6.out.trans hk3.e⟩
          have HJ9 : Kp _ := ⟨hJ3⟩
          clear hk3 hJ3 HRd HY
          gi_wp2
          go_wp2
          go_roundg g2
          case measure => omega
          case rel => exact ⟨k + 1, g, _, by omega, by go_num, HJ9, HE9, HM9, HG, HRn, ⟨by have := HP.out; simp; omega⟩⟩
        · gi_wp2
          go_wp2
          refine bodyPost_ret (results_none rfl _ _ _) rfl ?_
          refine ⟨⟨_, rfl⟩, .inr ⟨_, ?_, hJx3⟩⟩
          rw [← HRn.out]
          exact List.prefix_append _ _
      · have hg0' : (0 : Int) < (gx : Int) := by omega
        obtain ⟨g1, hg1⟩ : ∃ g1, g1 = gx - 1 := ⟨_, rfl⟩
        have hsub : IntKind.i64.wrap ((gx : Int) - 1) = (g1 : Int) := by
          have h1 := HG.out (z, b)
          have h2 := cntL_le bs (z, b)
          have h3 := HGx.out
          have h4 : bs.length ≤ 4294967296 := HKn.out
          rw [IntKind.wrap_i64, hg1]; omega
        have hsub2 : wrap64 ((gx : Int) - 1) = (g1 : Int) := by rw [← hsub]; simp only [wrap64, IntKind.wrap_i64]
        have HDn : Kp ((fun y => if y = (z, b) then some (Value.int .i64 (g1 : Int)) else cntG (cntL bs) g y) = cntG (cntL bs) (fun y => if y = (z, b) then g (z, b) - 1 else g y)) := ⟨cntG_down _ _ _ _ (by have := HGx.out; omega) (HG.out _) (by have := HGx.out; omega)⟩
        have HSm : Kp ((if (cntG (cntL bs) g (z, b)).isSome = true then mn else mn + 1) = mn) := ⟨by
          rw [if_pos (cntG_some _ _ _ (by have := HGx.out; omega) (HG.out _))]⟩
        have HRn : Kp (thsL pre ++ minusF (its.drop (k + 1)) (fun y => if y = (z, b) then g (z, b) - 1 else g y) = minusL its bs) := ⟨by
          have h := HR.out
          rw [List.drop_eq_getElem_cons hil, ← HX.out, minusF_more _ _ _ (by have := HGx.out; omega)] at h
          exact h⟩
        have HGn : Kp (∀ x, (fun y => if y = (z, b) then g (z, b) - 1 else g y) x ≤ cntL bs x) := ⟨fun x => by
          show (if x = (z, b) then g (z, b) - 1 else g x) ≤ cntL bs x
          have h1 := HG.out x
          by_cases hx : x = (z, b)
          · subst hx; rw [if_pos rfl]; omega
          · rw [if_neg hx]; exact h1⟩
        clear hg1 HR HX HGx HG
        generalize hgn : (fun y => if y = (z, b) then g (z, b) - 1 else g y) = gn at *
        clear hgn
        go_upto_region 6 with fail
        have hB6 := hb6
        replace HM6 : Kp (MapI (w4.alloc (.cells #[.int .i64 z, .string ⟨b.toArray⟩] 61)).drew Try.prog 61 kvT okT gm mn (cntG (cntL bs) g)) := ⟨HM6.out.stay rfl⟩
        have HGr : Kp (wr.grownBy (w4.alloc (.cells #[.int .i64 z, .string ⟨b.toArray⟩] 61)).drew (some gm)) := ⟨grow_below hb6.drew⟩
        have HMw : Kp (wr.heap[gm]? = (w4.alloc (.cells #[.int .i64 z, .string ⟨b.toArray⟩] 61)).drew.heap[gm]?) := ⟨(hb6.block gm HMlt.out).symm⟩
        have HWk : Kp (∃ o : Obj, wr.heap[gm]? = some o ∧ o.isWalk = true) := ⟨by rw [HMw.out]; exact HM6.out.walk⟩
        generalize hgt : w4.heap.size = gt at *
        clear hlook hi0 hi1 hb6 hlt6 hgt HMw hB6
        generalize w4.alloc (.cells #[.int .i64 z, .string ⟨b.toArray⟩] 61) = w6 at *
        refine wp_region_any (by kernel_rfl) ?_
        change wpAny _ _ _ _ _ _ _ w6.drew
        replace HT6 : Kp _ := ⟨HT6.out.drew⟩
        generalize w6.drew = wS at *
        refine wpAny_take (i := 0) (oi := ⟨some 22, _, _, _, _, _⟩) (v := ?_) rfl (by kernel_rfl) (by kernel_rfl) (by kernel_rfl) (fun _ _ _ h => h) (Or.inl ⟨by rfl, by intro w; go_simp; try rfl⟩) ?_
        try simp only [Act.put, List.setIfInBounds_toArray, List.set_cons_zero, List.set_cons_succ]
        refine wpAny_ready (rs := [1]) (by kernel_rfl) (by simp) ?_
        refine AllReady.cons (o := ⟨some 23, _, _, _, _, _⟩) rfl (fun K hK => ?_) AllReady.nil
        refine step_load rwTh rfl (.tmp 7) rfl rfl HT6.out (fit_all32 (n := 2) rfl) (take_all32 (n := 2) rfl) ?_
        refine hK _ _ ?_
        clear hK K
        try simp only [Act.put, List.setIfInBounds_toArray, List.set_cons_zero, List.set_cons_succ]
        refine wpAny_ready (rs := [2, 4]) (by kernel_rfl) (by simp) ?_
        refine AllReady.cons (o := ⟨some 24, _, _, _, _, _⟩) rfl (fun K hK => ?_) (AllReady.cons (o := ⟨some 26, _, _, _, _, _⟩) rfl (fun K hK => ?_) AllReady.nil)
        · first | refine step_lookI HM6.out keyT rfl (.tmp 22) (.tmp 23) rfl Try.underlying58 (z := .int .i64 0) (fun w => rfl) rfl (z, b) HOk.out rfl ?_ | refine step_lookE HE6.out keyT rfl (.tmp 22) (.tmp 23) rfl Try.underlying58 (fun w => rfl) rfl HOk.out rfl ?_
          rw [HGet.out]
          refine hK _ _ ?_
          clear hK K
          try simp only [Act.put, List.setIfInBounds_toArray, List.set_cons_zero, List.set_cons_succ]
          refine wpAny_take (i := 3) (oi := ⟨some 25, _, _, _, _, _⟩) (v := ?_) rfl (by kernel_rfl) (by kernel_rfl) (by kernel_rfl) (fun _ _ _ h => h) (Or.inl ⟨by rfl, by intro w; go_simp; try rfl⟩) ?_
          try simp only [Act.put, List.setIfInBounds_toArray, List.set_cons_zero, List.set_cons_succ]
          refine wpAny_ready (rs := [4]) (by kernel_rfl) (by simp) ?_
          refine AllReady.cons (o := ⟨some 26, _, _, _, _, _⟩) rfl (fun K hK => ?_) AllReady.nil
          refine step_entI HM6.out keyT rfl (.tmp 22) (.tmp 23) rfl Try.underlying58 (z := .int .i64 0) (fun w => rfl) HMn.out rfl (z, b) HOk.out rfl ?_
          intro st w62 hE ho
          refine hK _ _ ?_
          clear hK K
          try simp only [Act.put, List.setIfInBounds_toArray, List.set_cons_zero, List.set_cons_succ]
          have HE6 : Kp _ := ⟨hE⟩
          replace HGr : Kp _ := ⟨grow_only HGr.out ho⟩
          clear HM6 hE ho
          refine wpAny_take (i := 5) (oi := ⟨some 27, _, _, _, _, _⟩) (v := ?_) rfl (by kernel_rfl) (by kernel_rfl) (by kernel_rfl) (fun _ _ _ h => h) (Or.inl ⟨by rfl, by intro w; go_simp; try rfl⟩) ?_
          try simp only [Act.put, List.setIfInBounds_toArray, List.set_cons_zero, List.set_cons_succ]
          refine wpAny_ready (rs := [6]) (by kernel_rfl) (by simp) ?_
          refine AllReady.cons (o := ⟨none, _, _, _, _, _⟩) rfl (fun K hK => ?_) AllReady.nil
          refine step_entS HE6.out rfl (.tmp 22) (.tmp 27) (.tmp 25) rfl rfl rfl (u := .int .i64 (g1 : Int)) rfl ?_
          intro w63 hM ho
          refine hK _ _ ?_
          clear hK K
          try simp only [Act.put]
          have HM9 : Kp _ := ⟨hM⟩
          replace HGr : Kp _ := ⟨grow_only HGr.out ho⟩
          clear HE6 hM ho
          refine wpAny_done (by kernel_rfl) ?_ _
          rw [HDn.out, HSm.out] at HM9
          have HJ9 : Kp _ := ⟨HJ.out _ _ _ (some gm) HJr.out HGr.out (fun r e => by cases e; exact ⟨HGm.out, HWk.out⟩)⟩
          have HE9 : Kp _ := ⟨HE.out.trans (KpE.grown HGr.out (fun g e => by cases e; have := HGm.out; exact ⟨by omega, by omega, by omega⟩) hnr (by have := HE.out.below.size; omega) (by have := HE.out.below.size; omega))⟩
          clear HGr HWk HDn HSm HGet HOk HMs
          go_wp2
          go_roundg g2
          case measure => omega
          case rel => exact ⟨k + 1, gn, pre, by omega, by go_num, HJ9, HE9, HM9, HGn, HRn, ⟨by have := HP.out; omega⟩⟩
        · refine step_entI HM6.out keyT rfl (.tmp 22) (.tmp 23) rfl Try.underlying58 (z := .int .i64 0) (fun w => rfl) HMn.out rfl (z, b) HOk.out rfl ?_
          intro st w64 hE ho
          refine hK _ _ ?_
          clear hK K
          try simp only [Act.put, List.setIfInBounds_toArray, List.set_cons_zero, List.set_cons_succ]
          have HE6 : Kp _ := ⟨hE⟩
          replace HGr : Kp _ := ⟨grow_only HGr.out ho⟩
          clear HM6 hE ho
          refine wpAny_take (i := 5) (oi := ⟨some 27, _, _, _, _, _⟩) (v := ?_) rfl (by kernel_rfl) (by kernel_rfl) (by kernel_rfl) (fun _ _ _ h => h) (Or.inl ⟨by rfl, by intro w; go_simp; try rfl⟩) ?_
          try simp only [Act.put, List.setIfInBounds_toArray, List.set_cons_zero, List.set_cons_succ]
          refine wpAny_ready (rs := [2]) (by kernel_rfl) (by simp) ?_
          refine AllReady.cons (o := ⟨some 24, _, _, _, _, _⟩) rfl (fun K hK => ?_) AllReady.nil
          first | refine step_lookI HM6.out keyT rfl (.tmp 22) (.tmp 23) rfl Try.underlying58 (z := .int .i64 0) (fun w => rfl) rfl (z, b) HOk.out rfl ?_ | refine step_lookE HE6.out keyT rfl (.tmp 22) (.tmp 23) rfl Try.underlying58 (fun w => rfl) rfl HOk.out rfl ?_
          rw [HGet.out]
          refine hK _ _ ?_
          clear hK K
          try simp only [Act.put, List.setIfInBounds_toArray, List.set_cons_zero, List.set_cons_succ]
          refine wpAny_take (i := 3) (oi := ⟨some 25, _, _, _, _, _⟩) (v := ?_) rfl (by kernel_rfl) (by kernel_rfl) (by kernel_rfl) (fun _ _ _ h => h) (Or.inl ⟨by rfl, by intro w; go_simp; try rfl⟩) ?_
          try simp only [Act.put, List.setIfInBounds_toArray, List.set_cons_zero, List.set_cons_succ]
          refine wpAny_ready (rs := [6]) (by kernel_rfl) (by simp) ?_
          refine AllReady.cons (o := ⟨none, _, _, _, _, _⟩) rfl (fun K hK => ?_) AllReady.nil
          refine step_entS HE6.out rfl (.tmp 22) (.tmp 27) (.tmp 25) rfl rfl rfl (u := .int .i64 (g1 : Int)) rfl ?_
          intro w66 hM ho
          refine hK _ _ ?_
          clear hK K
          try simp only [Act.put]
          have HM9 : Kp _ := ⟨hM⟩
          replace HGr : Kp _ := ⟨grow_only HGr.out ho⟩
          clear HE6 hM ho
          refine wpAny_done (by kernel_rfl) ?_ _
          rw [HDn.out, HSm.out] at HM9
          have HJ9 : Kp _ := ⟨HJ.out _ _ _ (some gm) HJr.out HGr.out (fun r e => by cases e; exact ⟨HGm.out, HWk.out⟩)⟩
          have HE9 : Kp _ := ⟨HE.out.trans (KpE.grown HGr.out (fun g e => by cases e; have := HGm.out; exact ⟨by omega, by omega, by omega⟩) hnr (by have := HE.out.below.size; omega) (by have := HE.out.below.size; omega))⟩
          clear HGr HWk HDn HSm HGet HOk HMs
          go_wp2
          go_roundg g2
          case measure => omega
          case rel => exact ⟨k + 1, gn, pre, by omega, by go_num, HJ9, HE9, HM9, HGn, HRn, ⟨by have := HP.out; omega⟩⟩
end
end Go.Proofs.Ythpfiieaanioeaa

namespace Go.Proofs.Ythpfiieaanioeaa
open Go.RowKit Go.Deep

/-- a place, and where its bytes lie -/
abbrev Hd := Int × Option Addr × Nat × Nat
def hdCells : List Hd → List Value
  | [] => []
  | x :: l => .int .i64 x.1 :: .slice x.2.1 x.2.2.1 x.2.2.2 :: hdCells l
theorem hdCells_length : ∀ L : List Hd, (hdCells L).length = L.length * 2
  | [] => rfl
  | x :: l => by simp [hdCells, hdCells_length l]; omega
theorem hdCells_append : ∀ L M : List Hd, hdCells (L ++ M) = hdCells L ++ hdCells M
  | [], _ => rfl
  | x :: l, M => by simp [hdCells, hdCells_append l M]
theorem hdCells_one : ∀ (L : List Hd), ∀ u ∈ hdCells L, u.oneCell' = true
  | [], u, h => by cases h
  | x :: l, u, h => by
    simp only [hdCells, List.mem_cons] at h
    rcases h with rfl | rfl | h
    · rfl
    · rfl
    · exact hdCells_one l u h
theorem hdCells_at : ∀ (L : List Hd) (j : Nat) (h : j < L.length), (hdCells L)[j * 2]? = some (.int .i64 L[j].1) ∧ (hdCells L)[j * 2 + 1]? = some (.slice L[j].2.1 L[j].2.2.1 L[j].2.2.2)
  | x :: l, 0, _ => ⟨rfl, rfl⟩
  | x :: l, j + 1, h => by
    have ih := hdCells_at l j (by simpa using h)
    rw [show (j + 1) * 2 = j * 2 + 1 + 1 by omega]
    simp only [hdCells, List.getElem?_cons_succ, List.getElem_cons_succ]
    exact ih
theorem hdCells_some {L : List Hd} {j : Nat} {u : Value} (h : (hdCells L)[j]? = some u) : ∃ i, ∃ hi : i < L.length, (j = i * 2 ∧ u = .int .i64 L[i].1) ∨ (j = i * 2 + 1 ∧ u = .slice L[i].2.1 L[i].2.2.1 L[i].2.2.2) := by
  have hj : j < L.length * 2 := by
    have := (List.getElem?_eq_some_iff.1 h).1
    rwa [hdCells_length] at this
  have hi : j / 2 < L.length := by omega
  refine ⟨j / 2, hi, ?_⟩
  obtain ⟨h1, h2⟩ := hdCells_at L (j / 2) hi
  rcases Nat.mod_two_eq_zero_or_one j with e | e
  · have e2 : j = j / 2 * 2 := by omega
    rw [← e2] at h1
    exact .inl ⟨e2, Option.some.inj (h.symm.trans h1)⟩
  · have e2 : j = j / 2 * 2 + 1 := by omega
    rw [← e2] at h2
    exact .inr ⟨e2, Option.some.inj (h.symm.trans h2)⟩
/-- headers, and the things that they lead to -/
structure Leads (w : World) (B : Nat) (L : List Hd) (its : List (Int × List UInt8)) : Prop where
  len : L.length = its.length
  wf : ∀ x ∈ its, (Lit.int .i64 x.1).wf = true
  each : ∀ j (h : j < its.length), (L[j]'(by omega)).1 = its[j].1 ∧ Bs w B (L[j]'(by omega)).2.1 (L[j]'(by omega)).2.2.1 (L[j]'(by omega)).2.2.2 its[j].2
section
variable {w w' : World} {B B' : Nat} {A : Option Addr} {n c : Nat} {its its' : List (Int × List UInt8)} {L M : List Hd}
theorem Leads.nil (w : World) (B : Nat) : Leads w B [] [] := ⟨rfl, (fun x h => by cases h), fun j h => by cases h⟩
theorem Leads.below (h : Leads w B L its) (hb : Below B w w') : Leads w' B L its := ⟨h.len, h.wf, fun j hj => ⟨(h.each j hj).1, (h.each j hj).2.below hb⟩⟩
theorem Leads.more (h : Leads w B L its) (hB : B ≤ B') : Leads w B' L its := ⟨h.len, h.wf, fun j hj => ⟨(h.each j hj).1, (h.each j hj).2.more hB⟩⟩
theorem Leads.append (h : Leads w B L its) (k : Leads w B M its') : Leads w B (L ++ M) (its ++ its') := by
  refine ⟨by simp [h.len, k.len], fun x hx => ?_, fun j hj => ?_⟩
  · rcases List.mem_append.1 hx with hx | hx
    · exact h.wf x hx
    · exact k.wf x hx
  · have hl := h.len
    by_cases hlt : j < its.length
    · rw [List.getElem_append_left hlt, List.getElem_append_left (by omega)]
      exact h.each j hlt
    · rw [List.getElem_append_right (by omega), List.getElem_append_right (by omega)]
      have h3 := k.each (j - its.length) (by simp at hj; omega)
      simp only [hl]
      exact h3
theorem Leads.one {z : Int} {l : List UInt8} (hz : (Lit.int .i64 z).wf = true) (hb : Bs w B A n c l) : Leads w B [(z, A, n, c)] [(z, l)] := by
  refine ⟨rfl, fun x hx => ?_, fun j hj => ?_⟩
  · simp at hx; rw [hx]; exact hz
  · obtain rfl : j = 0 := by simp at hj; omega
    exact ⟨rfl, hb⟩
theorem Its.heads (h : Its w B A n c its) : ∃ L, Leads w B L its ∧ (∀ ad, A = some ad → ∀ j u, (hdCells L)[j]? = some u → w.cell? (ad.add j) = some u) := by
  have hlen := h.len
  rcases Nat.eq_zero_or_pos n with h0 | h0
  · obtain rfl : its = [] := List.eq_nil_of_length_eq_zero (by omega)
    exact ⟨[], Leads.nil _ _, fun ad _ j u hu => by simp [hdCells] at hu⟩
  · obtain ⟨b, o, rfl, hb, hc⟩ := h.cells h0
    have each : ∀ j, j < n → ∃ y : Hd, w.cell? ⟨b, o + j * 2, none⟩ = some (.int .i64 y.1) ∧ w.cell? ⟨b, o + j * 2 + 1, none⟩ = some (.slice y.2.1 y.2.2.1 y.2.2.2) ∧ ∀ hj : j < its.length, y.1 = its[j].1 ∧ Bs w B y.2.1 y.2.2.1 y.2.2.2 its[j].2 := by
      intro j hj
      obtain ⟨A', n', c', h1, h2, h3⟩ := hc j (by omega)
      exact ⟨(its[j].1, A', n', c'), h1, h2, fun _ => ⟨rfl, h3⟩⟩
    obtain ⟨y, hy⟩ := choose_lt each
    refine ⟨(List.range n).map y, ⟨by simp; omega, h.wf, fun j hj => ?_⟩, fun ad had j u hu => ?_⟩
    · simp only [List.getElem_map, List.getElem_range]
      exact (hy j (by omega)).2.2 hj
    · obtain rfl := Option.some.inj had
      obtain ⟨i, hi, ⟨rfl, rfl⟩ | ⟨rfl, rfl⟩⟩ := hdCells_some hu
      · rw [Addr.add_lit]
        simp only [List.getElem_map, List.getElem_range]
        exact (hy i (by simpa using hi)).1
      · rw [Addr.add_lit]
        simp only [List.getElem_map, List.getElem_range, ← Nat.add_assoc]
        exact (hy i (by simpa using hi)).2.1
theorem Its.of_own {base : Nat} {e : TypeId} {v : Value} (h : w.ownsRow base e 2 v n (hdCells L)) (hL : Leads w B L its) (hB : B ≤ w.heap.size) : ∃ A c, v = .slice A n c ∧ Its w w.heap.size A n c its := by
  have hl : L.length = n := by have := h.1; rw [hdCells_length] at this; omega
  have hli := hL.len
  rcases h.2 with ⟨rfl, rfl⟩ | ⟨g, cap, cur, rfl, hg, hh, hn, hm, hs, ht⟩
  · obtain rfl : its = [] := List.eq_nil_of_length_eq_zero (by omega)
    exact ⟨none, 0, rfl, rfl, Nat.le_refl _, Nat.zero_le _, fun _ => rfl, (fun x hx => by cases hx), fun h => absurd h (by omega)⟩
  · refine ⟨some ⟨g, 0, none⟩, cap, rfl, by omega, hn, hm, (fun h => by cases h), hL.wf, fun h0 => ⟨g, 0, rfl, (Array.getElem?_eq_some_iff.1 hh).1, fun j hj => ?_⟩⟩
    obtain ⟨h1, h2⟩ := hdCells_at L j (by omega)
    have k1 := h.cells (g := g) rfl _ _ h1
    have k2 := h.cells (g := g) rfl _ _ h2
    rw [Addr.add_lit] at k1 k2
    obtain ⟨e1, e2⟩ := hL.each j hj
    exact ⟨_, _, _, by rw [← e1]; exact k1, by rw [Nat.add_assoc]; exact k2, e2.more hB⟩
end
theorem own2_nil (w : World) (base : Nat) (e : TypeId) : w.ownsRow base e 2 (.slice none 0 0) 0 (hdCells []) := World.ownsRow_nil _ _ _ _
section
variable {P : Program} {w : World} {ops : Array Oper} {rest : List Oper} {o : Oper} {a : Act} {Q : Exit → Act → World → Prop} {t e : TypeId} {z : Value} {bytes : Nat}
theorem own2_below {w w' : World} {base n : Nat} {e : TypeId} {v : Value} {xs : List Value} (h : w.ownsRow base e 2 v n xs) (hb : Below w.heap.size w w') : w'.ownsRow base e 2 v n xs :=
  h.kept (row := none) ⟨hb.os, hb.tape, hb.output, hb.size, fun j hj _ => hb.block j hj⟩ (by cases v.ownBlock <;> simp)
theorem below_of_grown2 {base n : Nat} {v : Value} {xs : List Value} {w1 w2 : World} (hown : w1.ownsRow base e 2 v n xs) (hbase : base ≤ w1.heap.size) (hg : w1.grownBy w2 v.ownBlock) : Below base w1 w2 := by
  refine ⟨hg.os, hg.tape, hg.output, hg.size, fun k hk => hg.block k (by omega) (fun e => ?_)⟩
  rcases hown.2 with ⟨rfl, _⟩ | ⟨g, cap, cur, rfl, hb, _⟩
  · cases e
  · have := Option.some.inj e
    simp at this
    omega
theorem own2_ne {w : World} {base n g : Nat} {v : Value} {xs : List Value} (h : w.ownsRow base e 2 v n xs) (hg : w.heap.size ≤ g) : v.ownBlock ≠ some g := fun e => by
  rcases h.2 with ⟨rfl, _⟩ | ⟨g', cap, cur, rfl, _, hh, _⟩
  · cases e
  · have h1 : g' = g := Option.some.inj e
    have := (Array.getElem?_eq_some_iff.1 hh).1
    omega
theorem Blk.grown' {w w' : World} {k : Nat} {t : TypeId} {cs : List Value} {row : Option Nat} (h : Blk w k t cs) (hg : w.grownBy w' row) (hk : row ≠ some k) : Blk w' k t cs := ⟨(hg.block k h.lt (fun e => hk e.symm)).trans h.heap⟩
/-- append of things -/
theorem wpList_appI {i : TypeInfo} (ht : P.underlying t = some (.slice e)) (hi : P.info? e = some i) (hz : i.zero = some z) (hsize : i.size = 2) (hby : i.bytes = bytes) (hzs : z.cells.size = 2) (hgd : o.guard = none) (s x : Operand)
    (ho : o.op = .call { callee := .builtin .append, args := #[s, x], argTypes := #[t, t] })
    (base : Nat) (v : Value) (n : Nat) (L : List Hd) (hs : a.eval s = v) (hown : w.ownsRow base e 2 v n (hdCells L))
    (A : Option Addr) (m c : Nat) (M : List Hd) (hx : a.eval x = .slice A m c) (hl : M.length = m) (hnil : A = none → m = 0 ∧ c = 0)
    (hsrc : ∀ ad, A = some ad → ∀ j u, (hdCells M)[j]? = some u → w.cell? (ad.add j) = some u)
    (h63 : n + m ≤ maxLen) (hbytes : (n + m) * bytes ≤ 140737488355328) (hbase : base ≤ w.heap.size)
    (h : ∀ v' w', w'.ownsRow base e 2 v' (n + m) (hdCells (L ++ M)) → Below base w w' → w.grownBy w' v.ownBlock → wpList P ops Q rest (a.put o.dst v') w') :
    wpList P ops Q (o :: rest) a w := by
  cases A with
  | some ad =>
    exact wpList_append_own_at w hgd s x t ho base e i z 2 bytes ht hi hz hsize hby hzs (by decide) v n _ hs hown ad m c (hdCells M) hx (by rw [hdCells_length, hl]) (hsrc ad rfl) (hdCells_one M) h63 hbytes hbase
      (fun v' w' h2 h3 _ _ => h v' w' (by rw [hdCells_append]; exact h2) (below_of_grown2 hown hbase h3) h3)
  | none =>
    obtain ⟨rfl, rfl⟩ := hnil rfl
    obtain rfl : M = [] := List.eq_nil_of_length_eq_zero hl
    refine wpList_plain hgd fun K hK => ?_
    have hrun := run_append_owned_none (P := P) w base t o.type e i 2 ht hi v n (hdCells L) hown
    unfold Oper.wp
    simp [execOp, ho, resolve, invoke, builtin, hs, hx, hrun, Result.andThen]
    exact hK _ _ (h v w (by simpa using hown) (Below.refl _ _) (World.grownBy.refl _ _))
end
end Go.Proofs.Ythpfiieaanioeaa

namespace Go.Proofs.Ythpfiieaanioeaa
open Go.RowKit Go.Shelf

set_option maxRecDepth 100000 in
set_option maxHeartbeats 400000 in
theorem clone_any (A : Option Addr) (n c : Nat) (l : List UInt8) (w : World) (ha : Bs w w.heap.size A n c l) (hn : n ≤ 4294967296) :
    Calls Try.prog 21 #[.slice A n c] w fun e w' => ∃ v, e = .returned v ∧ w'.ownsRow w.heap.size 5 1 v n (cells8 l) ∧ Below w.heap.size w w' := by
  have HA : Kp _ := ⟨ha⟩
  have HL : Kp _ := ⟨ha.len⟩
  have heq := fun w => Lib.run_eql_slice_nil (P := Try.prog) w 22 5 A n c 0 0 Try.underlying22
  cases hA : A with
  | none =>
    have h0 : n = 0 := by have := ha.nil hA; have := ha.cap; omega
    have hl : l = [] := List.eq_nil_of_length_eq_zero (by have := ha.len; omega)
    have hc : c = 0 := ha.nil hA
    rw [hA] at heq
    clear ha HA HL hA
    subst h0 hl hc
    go_enter Try.func21, Try.ntmps21
    go_wp2
    go_ret
    exact ⟨_, rfl, own_nil _ _ _, Below.refl _ _⟩
  | some ad =>
    subst hA
    clear ha
    have hb1 : Below w.heap.size w (w.alloc (.cells #[] 5)) := (Below.refl _ _).alloc (Nat.le_refl _) _
    have HO : Kp ((w.alloc (.cells #[] 5)).ownsRow w.heap.size 5 1 (.slice (some ⟨w.heap.size, 0, none⟩) 0 0) 0 []) :=
      ⟨rfl, .inr ⟨w.heap.size, 0, #[], rfl, Nat.le_refl _, by show (w.heap.push _)[w.heap.size]? = _; simp, Nat.le_refl _, Nat.zero_le _, rfl, rfl⟩⟩
    have HA1 : Kp _ := ⟨HA.out.below hb1⟩
    go_enter Try.func21, Try.ntmps21
    go_wp2_with (at_builtin; refine wpList_app el8 rfl _ _ rfl w.heap.size _ 0 [] rfl HO.out (some ad) n c (cells8 l) rfl (by rw [cells8_length, HL.out]) (fun h => by cases h) HA1.out.news (cells8_one _) (by simp only [maxLen]; omega) (by omega) (by simp) ?_)
    intro v2 w2 hown2 hg2 _
    have hb2 : Below w.heap.size w w2 := hb1.trans (below_of_grown HO.out (by simp) hg2)
    have H2 : Kp (w2.ownsRow w.heap.size 5 1 v2 n (cells8 l)) := ⟨by simpa using hown2⟩
    clear hown2 hg2
    go_wp2
    go_ret
    exact ⟨_, rfl, H2.out, hb2⟩
theorem without_stops (n : Nat) (Bl Bk n₀ : Nat) (A : Option Addr) (m c : Nat) (its : List Th) (K : Option Addr) (kn kc : Nat) (bs : List Th) (w : World) (hn : n₀ ≤ w.heap.size)
    (hBl : w.cell? ⟨Bl, 0, none⟩ = some (.slice A m c)) (hBk : w.cell? ⟨Bk, 0, none⟩ = some (.slice K kn kc)) (hl : Bl < w.heap.size) (hk : Bk < w.heap.size) (hI : Its w n₀ A m c its) (hK : Its w n₀ K kn kc bs)
    (hm : m ≤ 4294967296) (hkn : kn ≤ 4294967296) (hbl : ∀ x ∈ its, x.2.length ≤ 4294967296) :
    SeqStopsK Fence.wide n Try.prog 30 #[.pointer (some ⟨Bk, 0, none⟩), .pointer (some ⟨Bl, 0, none⟩)] (encI (w := w) (B := n₀)) (KpW n₀ Bl Bk) (fun ys => thsL ys = minusL its bs) (fun pre => thsL pre <+: minusL its bs) m w := fun l J Jx W hW hJ _ hY h0 =>
  without1_in n l Bl Bk n₀ A m c its K kn kc bs w J Jx W hJ (hW.mono hn) (Nat.le_trans hn hW.size) hY ((hW.cell (p := ⟨Bl, 0, none⟩) hl).trans hBl) ((hW.cell (p := ⟨Bk, 0, none⟩) hk).trans hBk) (Nat.lt_of_lt_of_le hl hW.size) (Nat.lt_of_lt_of_le hk hW.size) hI hK hm hkn hbl h0
set_option maxHeartbeats 1000000 in
theorem without_any (A : Option Addr) (m c : Nat) (K : Option Addr) (kn kc : Nat) (w : World) :
    Calls Try.prog 20 #[.slice A m c, .slice K kn kc] w fun e w' => e = .returned (.func (.func 30) #[] #[.pointer (some ⟨w.heap.size + 1, 0, none⟩), .pointer (some ⟨w.heap.size, 0, none⟩)]) ∧ w' = (w.alloc (.cells #[.slice A m c] 23)).alloc (.cells #[.slice K kn kc] 23) := by
  go_enter Try.func20, Try.ntmps20
  go_wp2
  go_ret
  exact ⟨by simp, rfl⟩
/-- what a round may turn: block g, and what lies from S on in variables and rows -/
structure Rnd (S g : Nat) (X Y : World) : Prop where
  os : Y.os = X.os
  tape : Y.tape = X.tape
  output : Y.output = X.output
  block : ∀ k, k < S → k ≠ g → Y.heap[k]? = X.heap[k]?
  others : KeepsOthers X Y
section
variable {S g : Nat} {X Y Z : World}
theorem Rnd.refl (X : World) : Rnd S g X X := ⟨rfl, rfl, rfl, fun _ _ _ => rfl, KeepsOthers.refl _⟩
theorem Rnd.trans (h : Rnd S g X Y) (k : Rnd S g Y Z) : Rnd S g X Z := ⟨k.os.trans h.os, k.tape.trans h.tape, k.output.trans h.output, fun i hi hg => (k.block i hi hg).trans (h.block i hi hg), h.others.trans k.others⟩
theorem Rnd.of_below (h : Below X.heap.size X Y) (hS : S ≤ X.heap.size) : Rnd S g X Y :=
  ⟨h.os, h.tape, h.output, fun k hk _ => h.block k (by omega), ⟨h.size, fun k _ hk _ => (h.block k (Array.getElem?_eq_some_iff.1 hk).1).trans hk⟩⟩
theorem Rnd.of_set {t : TypeId} {cs : List Value} (h : Blk X g t cs) (i : Nat) (v : Value) : Rnd S g X (X.setCell ⟨g, i, none⟩ v) := by
  have ho := Only.setCell X ⟨g, i, none⟩ v
  refine ⟨ho.os, ho.tape, ho.output, fun k _ hg => ho.block k hg, ⟨by rw [ho.size]; exact Nat.le_refl _, fun k o hk hc => (ho.block k (fun e => ?_)).trans hk⟩⟩
  subst e
  rw [h.heap] at hk
  cases hk
  cases hc
theorem Rnd.of_own {e : TypeId} {size n : Nat} {v : Value} {xs : List Value} (hown : X.ownsRow S e size v n xs) (h : X.grownBy Y v.ownBlock) (hS : S ≤ X.heap.size) : Rnd S g X Y := by
  have hb : ∀ k, some k = v.ownBlock → S ≤ k ∧ ∃ cs fr, X.heap[k]? = some (.cells cs e fr) := fun k hk => by
    rcases hown.2 with ⟨rfl, _⟩ | ⟨g', cap, cur, rfl, h1, h2, _⟩
    · cases hk
    · have : k = g' := Option.some.inj hk
      subst this
      exact ⟨h1, _, _, h2⟩
  refine ⟨h.os, h.tape, h.output, fun k hk _ => h.block k (by omega) (fun e => by have := (hb k e).1; omega), ⟨h.size, fun k o hk hc => (h.block k (Array.getElem?_eq_some_iff.1 hk).1 (fun e => ?_)).trans hk⟩⟩
  obtain ⟨_, cs, fr, h2⟩ := hb k e
  rw [hk] at h2
  cases Option.some.inj h2
  cases hc
theorem Rnd.below {n₀ : Nat} (h : Rnd S g X Y) (hg : n₀ ≤ g) (hS : n₀ ≤ S) : Below n₀ X Y := ⟨h.os, h.tape, h.output, h.others.size, fun k hk => h.block k (by omega) (by omega)⟩
theorem Rnd.kpW {n₀ Bl Bk : Nat} (h : Rnd S g X Y) (hg : n₀ ≤ g) (hS : n₀ ≤ S) (hl : Bl < S) (hk : Bk < S) (hlg : Bl ≠ g) (hkg : Bk ≠ g) : KpW n₀ Bl Bk X Y :=
  ⟨⟨h.below hg hS, h.block _ hl hlg, h.block _ hk hkg⟩, ⟨h.others.size, fun k o hk ho => h.others.same k o hk (by cases o <;> first | rfl | cases ho)⟩⟩
theorem Rnd.from (h : Rnd S g X Y) (B : Nat) : KeepsFrom B X Y := h.others.from B
theorem cell_nc {b x : Nat} {v : Value} (h : X.cell? ⟨b, x, none⟩ = some v) {o : Obj} (ho : X.heap[b]? = some o) : o.isCells = true := by
  cases o <;> first | rfl | (simp [World.cell?, ho] at h)
/-- where nothing turns but what is no cells -/
theorem Bs.nc {B : Nat} {A : Option Addr} {n c : Nat} {l : List UInt8} {row : Option Nat} (h : Bs X B A n c l) (hg : X.grownBy Y row) (hr : ∀ r, row = some r → ∃ o : Obj, X.heap[r]? = some o ∧ o.isCells = false) : Bs Y B A n c l := by
  refine ⟨h.len, h.cap, h.max, h.nil, fun h0 => ?_⟩
  obtain ⟨b, o, hA, hb, hc⟩ := h.cells h0
  refine ⟨b, o, hA, hb, fun j hj => ?_⟩
  have h1 := hc j hj
  have hlt : b < X.heap.size := by
    cases hh : X.heap[b]? with
    | none => simp [World.cell?, hh] at h1
    | some o => exact (Array.getElem?_eq_some_iff.1 hh).1
  refine (World.cell?_of_block (w := X) (hg.block b hlt (fun e => ?_))).trans h1
  obtain ⟨o', h2, h3⟩ := hr b e.symm
  have := cell_nc h1 h2
  rw [h3] at this
  cases this
theorem own_nc {base : Nat} {e : TypeId} {size n : Nat} {v : Value} {xs : List Value} {row : Option Nat} (h : X.ownsRow base e size v n xs) (hg : X.grownBy Y row) (hr : ∀ r, row = some r → ∃ o : Obj, X.heap[r]? = some o ∧ o.isCells = false) : Y.ownsRow base e size v n xs := by
  refine ⟨h.1, ?_⟩
  rcases h.2 with ⟨rfl, rfl⟩ | ⟨g', cap, cur, rfl, hg', hh, hx⟩
  · exact .inl ⟨rfl, rfl⟩
  · refine .inr ⟨g', cap, cur, rfl, hg', (hg.block g' (Array.getElem?_eq_some_iff.1 hh).1 (fun e => ?_)).trans hh, hx⟩
    obtain ⟨o', h2, h3⟩ := hr g' e.symm
    rw [hh] at h2
    cases Option.some.inj h2
    cases h3
theorem blk_nc {k : Nat} {t : TypeId} {cs : List Value} {row : Option Nat} (h : Blk X k t cs) (hg : X.grownBy Y row) (hr : ∀ r, row = some r → ∃ o : Obj, X.heap[r]? = some o ∧ o.isCells = false) : Blk Y k t cs :=
  ⟨(hg.block k h.lt (fun e => by
    obtain ⟨o', h2, h3⟩ := hr k e.symm
    rw [h.heap] at h2
    cases Option.some.inj h2
    cases h3)).trans h.heap⟩
theorem below_nc {n₀ B : Nat} {w0 : World} {row : Option Nat} (h : Below n₀ w0 X) (hg : X.grownBy Y row) (hr : ∀ r, row = some r → B ≤ r) (hB : n₀ ≤ B) (hn : n₀ ≤ w0.heap.size) : Below n₀ w0 Y :=
  ⟨hg.os.trans h.os, hg.tape.trans h.tape, hg.output.trans h.output, Nat.le_trans h.size hg.size, fun k hk => (hg.block k (by have := h.size; omega) (fun e => by have := hr k e.symm; omega)).trans (h.block k hk)⟩
end
/-- rows of two types lie apart -/
theorem own_apart {X : World} {b b2 : Nat} {e e2 : TypeId} {s s2 n n2 : Nat} {v v2 : Value} {xs xs2 : List Value} (h : X.ownsRow b e s v n xs) (h2 : X.ownsRow b2 e2 s2 v2 n2 xs2) (hne : e ≠ e2) {g : Nat} (hg : v.ownBlock = some g) : v2.ownBlock ≠ some g := fun hg2 => by
  rcases h.2 with ⟨rfl, _⟩ | ⟨g1, cap, cur, rfl, _, hh, _⟩
  · cases hg
  · rcases h2.2 with ⟨rfl, _⟩ | ⟨g3, cap3, cur3, rfl, _, hh3, _⟩
    · cases hg2
    · have e1 : g1 = g := Option.some.inj hg
      have e3 : g3 = g := Option.some.inj hg2
      subst e1 e3
      rw [hh] at hh3
      have := Option.some.inj hh3
      injection this with _ h9 _
      exact hne h9
theorem own_stay {X Y : World} {b b2 : Nat} {e e2 : TypeId} {s s2 n n2 : Nat} {v v2 : Value} {xs xs2 : List Value} (h : X.ownsRow b e s v n xs) (h2 : X.ownsRow b2 e2 s2 v2 n2 xs2) (hne : e ≠ e2) (hg : X.grownBy Y v2.ownBlock) : Y.ownsRow b e s v n xs := by
  have ha := fun g => own_apart h h2 hne (g := g)
  refine ⟨h.1, ?_⟩
  rcases h.2 with ⟨rfl, rfl⟩ | ⟨g', cap, cur, rfl, hg', hh, hx⟩
  · exact .inl ⟨rfl, rfl⟩
  · exact .inr ⟨g', cap, cur, rfl, hg', (hg.block g' (Array.getElem?_eq_some_iff.1 hh).1 (fun e => ha g' rfl e.symm)).trans hh, hx⟩
theorem own_only {X Y : World} {b k : Nat} {e t : TypeId} {s n : Nat} {v : Value} {xs cs : List Value} (h : X.ownsRow b e s v n xs) (hk : Blk X k t cs) (hne : e ≠ t) (ho : Only k X Y) : Y.ownsRow b e s v n xs := by
  refine ⟨h.1, ?_⟩
  rcases h.2 with ⟨rfl, rfl⟩ | ⟨g', cap, cur, rfl, hg', hh, hx⟩
  · exact .inl ⟨rfl, rfl⟩
  · refine .inr ⟨g', cap, cur, rfl, hg', (ho.block g' (fun e1 => ?_)).trans hh, hx⟩
    subst e1
    rw [hk.heap] at hh
    have := Option.some.inj hh
    injection this with _ h9 _
    exact hne h9.symm
theorem own_sl {X : World} {b e s n : Nat} {v : Value} {xs : List Value} (h : X.ownsRow b e s v n xs) : ∃ A c, v = .slice A n c := by
  rcases h.2 with ⟨rfl, rfl⟩ | ⟨g1, cap, cur, rfl, _⟩
  · exact ⟨_, _, rfl⟩
  · exact ⟨_, _, rfl⟩
theorem own_zero {X : World} {b e s n : Nat} {v : Value} {xs : List Value} (h : X.ownsRow b e s v n xs) : X.ownsRow 0 e s v n xs := by
  refine ⟨h.1, ?_⟩
  rcases h.2 with h1 | ⟨g1, cap, cur, e1, _, h3⟩
  · exact .inl h1
  · exact .inr ⟨g1, cap, cur, e1, Nat.zero_le _, h3⟩
theorem own_low {X : World} {S g e s n : Nat} {v : Value} {xs : List Value} (h : X.ownsRow S e s v n xs) (hg : g < S) : v.ownBlock ≠ some g := fun e1 => by
  rcases h.2 with ⟨rfl, _⟩ | ⟨g1, cap, cur, rfl, h1, _⟩
  · cases e1
  · have : g1 = g := Option.some.inj e1
    omega
theorem own_kept {X Y : World} {b e s n : Nat} {v : Value} {xs : List Value} (h : X.ownsRow b e s v n xs) (hb : Below X.heap.size X Y) : Y.ownsRow b e s v n xs :=
  h.kept (row := none) ⟨hb.os, hb.tape, hb.output, hb.size, fun j hj _ => hb.block j hj⟩ (by cases v.ownBlock <;> simp)
/-- headers, each of which leads to a row of bytes of its own -/
structure LdO (X : World) (L : List Hd) (its : List Th) : Prop where
  len : L.length = its.length
  wf : ∀ x ∈ its, (Lit.int .i64 x.1).wf = true
  each : ∀ j (h : j < its.length), (L[j]'(by omega)).1 = its[j].1 ∧ X.ownsRow 0 5 1 (.slice (L[j]'(by omega)).2.1 (L[j]'(by omega)).2.2.1 (L[j]'(by omega)).2.2.2) (L[j]'(by omega)).2.2.1 (cells8 its[j].2)
section
variable {X Y : World} {L : List Hd} {its : List Th}
theorem LdO.nil (X : World) : LdO X [] [] := ⟨rfl, (fun x h => by cases h), fun j h => absurd h (by simp)⟩
theorem LdO.imp (h : LdO X L its) (hs : ∀ v n l, X.ownsRow 0 5 1 v n (cells8 l) → Y.ownsRow 0 5 1 v n (cells8 l)) : LdO Y L its := ⟨h.len, h.wf, fun j hj => ⟨(h.each j hj).1, hs _ _ _ (h.each j hj).2⟩⟩
theorem LdO.snoc (h : LdO X L its) {z : Int} {A : Option Addr} {n c : Nat} {l : List UInt8} (hz : (Lit.int .i64 z).wf = true) (hb : X.ownsRow 0 5 1 (.slice A n c) n (cells8 l)) : LdO X (L ++ [(z, A, n, c)]) (its ++ [(z, l)]) := by
  have hl := h.len
  refine ⟨by simp [hl], fun x hx => ?_, fun j hj => ?_⟩
  · rcases List.mem_append.1 hx with hx | hx
    · exact h.wf x hx
    · simp at hx; rw [hx]; exact hz
  · by_cases hlt : j < its.length
    · simp only [List.getElem_append_left hlt, List.getElem_append_left (show j < L.length by omega)]
      exact h.each j hlt
    · have e : j = its.length := by simp at hj; omega
      have e1 : (its ++ [(z, l)])[j] = (z, l) := by rw [List.getElem_append_right (by omega)]; simp
      have e2 : (L ++ [(z, A, n, c)])[j]'(by simp; omega) = (z, A, n, c) := by rw [List.getElem_append_right (by omega)]; simp
      rw [e1, e2]
      exact ⟨rfl, hb⟩
theorem LdO.leads (h : LdO X L its) : Leads X X.heap.size L its := ⟨h.len, h.wf, fun j hj => ⟨(h.each j hj).1, by
  obtain ⟨A, c, e1, hb⟩ := Bs.of_own (h.each j hj).2
  injection e1 with e2 _ e3
  rw [e2, e3]
  exact hb⟩⟩
end
theorem Leads.nc {B : Nat} {X Y : World} {L : List Hd} {its : List Th} {row : Option Nat} (h : Leads X B L its) (hg : X.grownBy Y row) (hr : ∀ r, row = some r → ∃ o : Obj, X.heap[r]? = some o ∧ o.isCells = false) : Leads Y B L its := ⟨h.len, h.wf, fun j hj => ⟨(h.each j hj).1, (h.each j hj).2.nc hg hr⟩⟩
theorem infIt : ((Try.prog).info? 30).map (fun i => (i.zero, i.size, i.bytes)) = some (some (.agg zeroIt.toArray), 2, 32) := by kernel_rfl
section
variable {w : World} {ops : Array Oper} {o : Oper} {a : Act} {Q : Exit → Act → World → Prop}
/-- append of one thing, which has just been laid -/
theorem step_appI {K : Act → World → Prop} {C : Prop} (hgd : o.guard = none) (s x : Operand)
    (ho : o.op = .call { callee := .builtin .append, args := #[s, x], argTypes := #[23, 23] })
    (base : Nat) (v : Value) (n : Nat) (L : List Hd) (hs : a.eval s = v) (hown : w.ownsRow base 30 2 v n (hdCells L))
    (g : Nat) (z : Int) (A : Option Addr) (m c : Nat) (hx : a.eval x = .slice (some ⟨g, 0, none⟩) 1 1) (hk : Blk w g 30 [.int .i64 z, .slice A m c])
    (hn : n ≤ 4294967296) (hbase : base ≤ w.heap.size)
    (h : ∀ v' w', w'.ownsRow base 30 2 v' (n + 1) (hdCells (L ++ [(z, A, m, c)])) → w.grownBy w' v.ownBlock → K (a.put o.dst v') w') :
    if Region.wanted o (yielded ops a.tmps) = true then Oper.wp Try.prog o a w K Q else C := by
  have hw : Region.wanted o (yielded ops a.tmps) = true := by simp [Region.wanted, hgd]
  rw [if_pos hw]
  obtain ⟨i, hi, hz0, hz1, hz2⟩ := info_parts infIt
  obtain ⟨v', w', hrun, h2, h3, _, h5⟩ := run_append_own_at (P := Try.prog) w base 23 o.type 30 i (.agg zeroIt.toArray) 2 32 Try.underlying23 hi hz0 hz1 hz2 rfl (by decide) v n (hdCells L) hown ⟨g, 0, none⟩ 1 1 (hdCells [(z, A, m, c)]) rfl
    (fun j u hu => by rw [Addr.add_lit, Nat.zero_add, hk.cell? j]; exact hu) (hdCells_one _) (by simp only [maxLen]; omega) (by omega) hbase
  unfold Oper.wp execOp
  simp only [ho, resolve, invoke, builtin, Sem.run_bind, Sem.run_pure, Result.andThen_ok, List.map_toArray, List.map_cons, List.map_nil, hs, hx, hrun]
  exact h v' w' (by rw [hdCells_append]; exact h2) h3
end
end Go.Proofs.Ythpfiieaanioeaa

namespace Go.Proofs.Ythpfiieaanioeaa
open Go.RowKit

section
variable {P : Program} {ops : Array Oper} {Q : Exit → Act → World → Prop} {n : Nat}
theorem ops_inRound (r : Nat) (hno : ¬ LetsOut Q) (hd : ∀ (i : Nat) (o : Oper), ops[i]? = some o → ∀ c, o.op ≠ .defer c) : ∀ (sched : List Nat) (a : Act) (w : World), wpOps P ops Q sched a w → wpOpsIn (Fence.wide.inRound r) n P ops Q sched a w
  | [], _, _, h => h
  | i :: rest, a, w, h => by
    unfold wpOps at h
    unfold wpOpsIn
    cases ho : ops[i]? with
    | none =>
      simp only [ho] at h ⊢
      exact ops_inRound r hno hd rest a w h
    | some o =>
      simp only [ho] at h ⊢
      by_cases hw : Region.wanted o (yielded ops a.tmps) = true
      · rw [if_pos hw] at h ⊢
        rcases h with h | ⟨_, h⟩
        · exact op_inRound r (hd i o ho) (Oper.wp_mono (fun a w h => ops_inRound r hno hd rest a w h) h)
        · exact absurd h hno
      · rw [if_neg hw] at h ⊢
        exact ⟨fun f _ => trivial, ops_inRound r hno hd rest _ _ h⟩
theorem region_inRound {id : Nat} {a : Act} {w : World} (r : Nat) (hno : ¬ LetsOut Q) (hd : (ops.all fun o => match o.op with | .defer _ => false | _ => true) = true) (hm : P.follows .mixedOrders = true)
    (h : wpAny P .any ops Q ops.size (Array.replicate ops.size false) a w.drew) : (Code.region id ops true).wpIn (Fence.wide.inRound r) n P Q a w := by
  refine wpIn_region_draw fun t => ?_
  simp only [Region.schedule, hm, Bool.true_or, if_true]
  refine ops_inRound r hno (fun i o ho c e => ?_) _ _ _ (wpAny_sound ops.size t _ a _ h)
  have h1 := Array.all_eq_true.1 hd i (Array.getElem?_eq_some_iff.1 ho).1
  rw [(Array.getElem?_eq_some_iff.1 ho).2, e] at h1
  cases h1
end
end Go.Proofs.Ythpfiieaanioeaa
