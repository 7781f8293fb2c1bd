/- The contract of World's Lie.
   The contract of world's New.
   The contract of sacristanref00's Same.
   Worlds, and bytes that are held, as a statement's walk carries them; the methods over them. -/
import Derived.Test.YtpbpegoobgfjcaaG04
import Derived.Test.YtpbpegoobgfjcaaG05
import Derived.Test.YtpbpegoobgfjcaaG03
import Derived.Deep.LoopGhost
import Derived.WalkMore
import Derived.Test.YtpbpegoobgfjcaaG02
import Derived.Test.YtpbpegoobgfjcaaG06
namespace Go.Proofs.Ytpbpegoobgfjcaa
open Go.RowKit
section
variable {P : Program} {w : World} {k t e : TypeId} {κ : Type} {kv : κ → Value} {ok : κ → Prop} {b n : Nat} {f : κ → Option Value} {ops : Array Oper} {o : Oper} {a : Act} {Q : Exit → Act → World → Prop}
theorem step_storeI [DecidableEq κ] {K : Act → World → Prop} {C : Prop} (h : MapI w P k kv ok b n f) (T : KeyT P k kv ok) (hgd : o.guard = none) (m y v : Operand) (hop : o.op = Op.mapUpdate t m y v) (ht : P.underlying t = some (.map k e)) (hn : n < maxLen)
    (hm : a.eval m = .map (some b)) (x : κ) (hx : ok x) (hy : a.eval y = kv x) {u : Value} (hv : a.eval v = u)
    (hK : ∀ w', MapI w' P k kv ok b (if (f x).isSome then n else n + 1) (fun y => if y = x then some u else f y) → Only b w w' → K (a.put o.dst undef) w') :
    if Region.wanted o (yielded ops a.tmps) = true then Oper.wp P o a w K Q else C := by
  have hw : Region.wanted o (yielded ops a.tmps) = true := by simp [Region.wanted, hgd]
  rw [if_pos hw]
  obtain ⟨w', hr, h1, h2⟩ := h.store T ht hn hx u
  unfold Oper.wp
  simp [execOp, hop, hm, hy, hv, hr, Result.andThen]
  exact hK w' h1 h2
end
section
variable {O M : Nat → Prop} {b : Nat} {ad : Ad} {t : Wd} {p : Int × Int → Option Nat} {L : List Hd4} {w : World}
def lieW (t : Wd) (n : Int) (l : List UInt8) : Wd := if n < (t.reads : Int) then t else { t with lies := fun z => if z = n then some l else t.lies z, nl := t.nl + 1 }
def lieO (O : Nat → Prop) (g : Nat) : Nat → Prop := fun k => O k ∨ k = g
/-- a map for lies is made -/
theorem lies_made (h : Parts w O M b ad t p L) (hno : ∀ z, okI z → t.lies z = none) :
    Parts ((w.alloc (.map #[] 0)).setCell ⟨b, 8, none⟩ (.map (some w.heap.size))) (lieO O w.heap.size) (Or2 M (lieO O w.heap.size)) b { ad with ml := some w.heap.size } t p L ∧ Nx w O ((w.alloc (.map #[] 0)).setCell ⟨b, 8, none⟩ (.map (some w.heap.size))) (lieO O w.heap.size) := by
  have hlt := fun k hk => h.lt k (h.sub k hk)
  have hbl := h.blk.lt
  have hb1 : Below w.heap.size w (w.alloc (.map #[] 0)) := (Below.refl _ _).alloc (Nat.le_refl _) _
  have ho := Only.setCell (w.alloc (.map #[] 0)) ⟨b, 8, none⟩ (.map (some w.heap.size))
  have C : Chg O w ((w.alloc (.map #[] 0)).setCell ⟨b, 8, none⟩ (.map (some w.heap.size))) := (Chg.of_below O hb1).trans (Chg.of_only (S := O) ho h.ob) (fun _ _ h => h)
  have keep : ∀ k, k < w.heap.size → k ≠ b → ((w.alloc (.map #[] 0)).setCell ⟨b, 8, none⟩ (.map (some w.heap.size))).heap[k]? = w.heap[k]? := fun k hk hkb => (ho.block k hkb).trans (hb1.block k hk)
  have NX : Nx w O ((w.alloc (.map #[] 0)).setCell ⟨b, 8, none⟩ (.map (some w.heap.size))) (lieO O w.heap.size) :=
    ⟨C, fun k hk => .inl hk, fun k hk => hk.imp id (fun (e : k = w.heap.size) => by omega), fun k hk => by
      rcases hk with h1 | h1
      · exact Nat.lt_of_lt_of_le (hlt k h1) C.size
      · subst h1; simp [World.setCell]⟩
  have hM := or2_new h.sub NX
  refine ⟨⟨fun k hk => .inr hk, or2_lt h.lt NX, .inl h.ob, ?_, ?_, ?_, h.seal0.chg C h.sub hM, h.seal1.chg C h.sub hM, ?_, h.big, h.pow, h.num, h.read, ?_⟩, NX⟩
  · have h8 := (h.blk.below hb1 hbl).set 8 (.map (some w.heap.size))
    exact h8
  · refine h.slots.stay (fun _ h => .inl h) (fun k hk hkk => keep k (hlt k hk) ?_)
    rcases hkk with h1 | h1
    · exact h1.ne h.blk.row
    · exact h1.ne h.blk.row (by decide)
  · refine .inr ⟨w.heap.size, 0, fun _ => none, rfl, .inr rfl, ?_, Nat.zero_le _, fun z hz => by rw [hno z hz]; trivial⟩
    exact (MapI.made w _ _ _ _).stay (ho.block _ (show w.heap.size ≠ b by omega))
  · exact h.trace.stay (fun _ h => .inl h) (fun k hk hkk => keep k (hlt k hk) (hkk.ne h.blk.row (by decide))) C h.sub hM
  · intro e
    have e1 : w.heap.size = ad.ms := Option.some.inj e
    have := h.slots.map.lt
    omega

set_option maxRecDepth 100000 in
set_option maxHeartbeats 1000000 in
/-- where there is a map -/
theorem lie_some (h : Parts w O M b ad t p L) (n : Int) (hn : okI n) (hnr : ¬ n < (t.reads : Int)) (A : Option Addr) (m c : Nat) (l : List UInt8) (ha : BsM w M A m c l) (hnl : t.nl ≤ 1000000) (g : Nat) (hg : ad.ml = some g) :
    Calls Try.prog 14 #[.pointer (some ⟨b, 0, none⟩), .int .i64 n, .slice A m c] w fun e w' => e = .returned (.tuple #[]) ∧ Parts w' O M b ad { t with lies := fun z => if z = n then some l else t.lies z, nl := t.nl + 1 } p L ∧ Nx w O w' O := by
  have HP : Kp _ := ⟨h⟩
  have HA : Kp _ := ⟨ha⟩
  have hm := ha.fit
  have c8 : w.cell? ⟨b, 8, none⟩ = some (.map (some g)) := by rw [h.blk.cell? 8, ← hg]; rfl
  have heq := fun w => run_eql_map_nil (P := Try.prog) w 73 3 22 (some g) Try.underlying73
  have HG : Kp _ := ⟨hg⟩
  clear h ha hg
  go_enter Try.func14, Try.ntmps14
  go_wp2_with fail
  refine (load_any b ad t w HP.out.blk).mono ?_
  rintro e w1 ⟨rfl, rfl⟩
  go_wp2_with fail
  refine wp_region_any (by kernel_rfl) ?_
  change wpAny _ _ _ _ _ _ _ (w1).drew
  have PS := (HP.out).below (Below.refl _ _).drew
  have NS : Nx w1 O (w1).drew (O) := (HP.out.nx).below (Below.refl _ _).drew
  have AS : Bs (w1).drew (w1).drew.heap.size A m c l := (HA.out).bs.drew
  generalize (w1).drew = wS at *
  have HP2 : Kp _ := ⟨PS⟩
  have HNS : Kp _ := ⟨NS⟩
  have HAs : Kp _ := ⟨AS⟩
  obtain ⟨m1, f1, hO1, hI1, hm1, hf1⟩ : ∃ m1 f1, (O) g ∧ MapI wS Try.prog 3 kvI okI g m1 f1 ∧ m1 ≤ t.nl ∧ ∀ z, okI z → LieAt wS (M) (f1 z) (t.lies z) := by
    rcases PS.lies with ⟨h1, _⟩ | ⟨g', m1, f1, h1, h2, h3, h4, h5⟩
    · rw [HG.out] at h1; cases h1
    · rw [HG.out] at h1
      obtain rfl := Option.some.inj h1
      exact ⟨m1, f1, h2, h3, h4, h5⟩
  have hb0 : Below wS.heap.size wS wS := Below.refl _ _
  have HX : Kp (∀ W, Below wS.heap.size wS W → W.cell? ⟨b, 8, none⟩ = some (.map (some (g)))) := ⟨fun W hW => by rw [(PS.blk.below hW PS.blk.lt).cell? 8]; show some (Value.map (ad.ml)) = _; rw [HG.out]⟩
  have HX2 : Kp (∀ W, Below wS.heap.size wS W → MapI W Try.prog 3 kvI okI g m1 f1) := ⟨fun W hW => hI1.stay (hW.block g hI1.lt)⟩
  have HF : Kp (m1 ≤ 1000000 ∧ ∀ W v W2, Below wS.heap.size wS W → W.ownsRow wS.heap.size 5 1 v m (cells8 l) → MapI W2 Try.prog 3 kvI okI g (if (f1 n).isSome then m1 else m1 + 1) (fun y => if y = n then some v else f1 y) → Only g W W2 → Parts W2 (O) (M) b (ad) { t with lies := fun z => if z = n then some l else t.lies z, nl := t.nl + 1 } p L ∧ Nx wS (O) W2 (O)) := ⟨by omega, fun W v W2 hW hrow hI2 ho2 => by
    obtain ⟨Av, cv, rfl, hbv⟩ := BsM.of_own (M := M) hrow PS.lt hm
    have PW := PS.below hW
    refine ⟨PW.lied HG.out ho2 hI2 (by split <;> omega) (fun z hz => ?_), ((Nx.refl _ wS (fun k hk => PS.lt k (PS.sub k hk))).below hW).trans (Nx.only ho2 hO1 (fun k hk => PW.lt k (PW.sub k hk)))⟩
    by_cases e : z = n
    · rw [if_pos e, if_pos e]
      exact ⟨_, _, _, rfl, hbv⟩
    · rw [if_neg e, if_neg e]
      exact (hf1 z hz).chg (S := fun _ => False) (Chg.of_below _ hW) (fun _ h => h.elim) (fun _ h => .inl h)⟩
  clear PS NS AS hI1 hf1 hm1 hO1
  refine wpAny_take (i := 0) (oi := ⟨some 25, _, _, _, _, _⟩) (v := ?_) rfl (by kernel_rfl) (by kernel_rfl) (by kernel_rfl) (fun _ _ _ h => h) (Or.inl ⟨by rfl, by intro w; go_simp; try rfl⟩) ?_
  try simp only [Act.put, List.setIfInBounds_toArray, List.set_cons_zero, List.set_cons_succ]
  refine wpAny_take (i := 1) (oi := ⟨some 26, _, _, _, _, _⟩) (v := ?_) rfl (by kernel_rfl) (by kernel_rfl) (by kernel_rfl) (fun _ _ _ h => h) (Or.inl ⟨by rfl, by intro w; go_simp; try rfl⟩) ?_
  try simp only [Act.put, List.setIfInBounds_toArray, List.set_cons_zero, List.set_cons_succ]
  refine wpAny_take (i := 2) (oi := ⟨some 27, _, _, _, _, _⟩) (v := ?_) rfl (by kernel_rfl) (by kernel_rfl) (by kernel_rfl) (fun _ _ _ h => h) (Or.inl ⟨by rfl, by intro w; go_simp; try rfl⟩) ?_
  try simp only [Act.put, List.setIfInBounds_toArray, List.set_cons_zero, List.set_cons_succ]
  refine wpAny_take (i := 4) (oi := ⟨some 29, _, _, _, _, _⟩) (v := ?_) rfl (by kernel_rfl) (by kernel_rfl) (by kernel_rfl) (fun _ _ _ h => h) (Or.inl ⟨by rfl, by intro w; go_simp; try rfl⟩) ?_
  try simp only [Act.put, List.setIfInBounds_toArray, List.set_cons_zero, List.set_cons_succ]
  refine wpAny_take (i := 5) (oi := ⟨some 30, _, _, _, _, _⟩) (v := ?_) rfl (by kernel_rfl) (by kernel_rfl) (by kernel_rfl) (fun _ _ _ h => h) (Or.inl ⟨by rfl, by intro w; go_simp; try rfl⟩) ?_
  try simp only [Act.put, List.setIfInBounds_toArray, List.set_cons_zero, List.set_cons_succ]
  refine wpAny_ready (rs := [3, 6]) (by kernel_rfl) (by simp) ?_
  refine AllReady.cons (o := ⟨some 28, _, _, _, _, _⟩) rfl (fun K hK => ?_) (AllReady.cons (o := ⟨some 31, _, _, _, _, _⟩) rfl (fun K hK => ?_) AllReady.nil)
  · have c8' := HX.out wS hb0
    go_simp
    refine hK _ _ ?_
    clear hK K c8'
    try simp only [Act.put, List.setIfInBounds_toArray, List.set_cons_zero, List.set_cons_succ]
    refine wpAny_ready (rs := [6]) (by kernel_rfl) (by simp) ?_
    refine AllReady.cons (o := ⟨some 31, _, _, _, _, _⟩) rfl (fun K hK => ?_) AllReady.nil
    go_simp
    refine (clone_any A m c l wS HAs.out hm).mono ?_
    rintro e w62 ⟨v, rfl, ho', hb0'⟩
    replace hb0 := hb0'
    have HO : Kp _ := ⟨And.intro ho' hb0'⟩
    clear ho' hb0'
    refine hK _ _ ?_
    clear hK K
    try simp only [Act.put, List.setIfInBounds_toArray, List.set_cons_zero, List.set_cons_succ]
    refine wpAny_ready (rs := [7]) (by kernel_rfl) (by simp) ?_
    refine AllReady.cons (o := ⟨none, _, _, _, _, _⟩) rfl (fun K hK => ?_) AllReady.nil
    refine step_storeI (HX2.out w62 hb0) keyI rfl (.tmp 28) (.tmp 29) (.tmp 31) rfl Try.underlying73 (by have := HF.out.1; simp only [maxLen]; omega) rfl n hn rfl rfl ?_
    intro w63 hI' ho'
    have HR : Kp _ := ⟨HF.out.2 w62 _ w63 hb0 HO.out.1 hI' ho'⟩
    clear hI' ho'
    refine hK _ _ ?_
    clear hK K
    try simp only [Act.put]
    refine wpAny_done (by kernel_rfl) ?_ _
    go_wp2
    go_end0
    exact ⟨rfl, HR.out.1, HNS.out.trans HR.out.2⟩
  · go_simp
    refine (clone_any A m c l wS HAs.out hm).mono ?_
    rintro e w64 ⟨v, rfl, ho', hb0'⟩
    replace hb0 := hb0'
    have HO : Kp _ := ⟨And.intro ho' hb0'⟩
    clear ho' hb0'
    refine hK _ _ ?_
    clear hK K
    try simp only [Act.put, List.setIfInBounds_toArray, List.set_cons_zero, List.set_cons_succ]
    refine wpAny_ready (rs := [3]) (by kernel_rfl) (by simp) ?_
    refine AllReady.cons (o := ⟨some 28, _, _, _, _, _⟩) rfl (fun K hK => ?_) AllReady.nil
    have c8' := HX.out w64 hb0
    go_simp
    refine hK _ _ ?_
    clear hK K c8'
    try simp only [Act.put, List.setIfInBounds_toArray, List.set_cons_zero, List.set_cons_succ]
    refine wpAny_ready (rs := [7]) (by kernel_rfl) (by simp) ?_
    refine AllReady.cons (o := ⟨none, _, _, _, _, _⟩) rfl (fun K hK => ?_) AllReady.nil
    refine step_storeI (HX2.out w64 hb0) keyI rfl (.tmp 28) (.tmp 29) (.tmp 31) rfl Try.underlying73 (by have := HF.out.1; simp only [maxLen]; omega) rfl n hn rfl rfl ?_
    intro w66 hI' ho'
    have HR : Kp _ := ⟨HF.out.2 w64 _ w66 hb0 HO.out.1 hI' ho'⟩
    clear hI' ho'
    refine hK _ _ ?_
    clear hK K
    try simp only [Act.put]
    refine wpAny_done (by kernel_rfl) ?_ _
    go_wp2
    go_end0
    exact ⟨rfl, HR.out.1, HNS.out.trans HR.out.2⟩
set_option maxRecDepth 100000 in
set_option maxHeartbeats 1000000 in
theorem lie_any (h : Parts w O M b ad t p L) (n : Int) (hn : okI n) (A : Option Addr) (m c : Nat) (l : List UInt8) (ha : BsM w M A m c l) (hnl : t.nl ≤ 1000000) :
    Calls Try.prog 14 #[.pointer (some ⟨b, 0, none⟩), .int .i64 n, .slice A m c] w fun e w' => e = .returned (.tuple #[]) ∧ ∃ ad' O', Parts w' O' (Or2 M O') b ad' (lieW t n l) p L ∧ Nx w O w' O' := by
  by_cases hnr : n < (t.reads : Int)
  · have HP : Kp _ := ⟨h⟩
    have HT : Kp (lieW t n l = t) := ⟨by unfold lieW; rw [if_pos hnr]⟩
    have hd : decide (n < (t.reads : Int)) = true := decide_eq_true hnr
    clear h ha
    go_enter Try.func14, Try.ntmps14
    go_wp2_with fail
    refine (load_any b ad t w HP.out.blk).mono ?_
    rintro e w1 ⟨rfl, rfl⟩
    go_wp2
    refine bodyPost_ret (v := .tuple #[]) (results_none rfl _ _ _) rfl ?_
    rw [HT.out]
    exact ⟨rfl, ad, O, HP.out.stayO, HP.out.nx⟩
  · have hT : lieW t n l = { t with lies := fun z => if z = n then some l else t.lies z, nl := t.nl + 1 } := by unfold lieW; rw [if_neg hnr]
    cases hml : ad.ml with
    | some g =>
      refine (lie_some h n hn hnr A m c l ha hnl g hml).mono ?_
      rintro e w' ⟨rfl, P', N'⟩
      rw [hT]
      exact ⟨rfl, ad, O, P'.stayO, N'⟩
    | none =>
      have hno : ∀ z, okI z → t.lies z = none := by
        rcases h.lies with ⟨_, h2⟩ | ⟨g, m', f, h1, _⟩
        · exact h2
        · rw [hml] at h1; cases h1
      have HP : Kp _ := ⟨h⟩
      have HA : Kp _ := ⟨ha⟩
      have HT : Kp _ := ⟨hT⟩
      have hm := ha.fit
      have c8 : w.cell? ⟨b, 8, none⟩ = some (.map none) := by rw [h.blk.cell? 8, ← hml]; rfl
      have f8 := h.blk.frozen 8
      have a8 : (w.alloc (.map #[] 0)).cell? ⟨b, 8, none⟩ = some (.map none) := by rw [← c8]; exact World.cell?_of_block (w := w) (Below.heap_alloc _ _ _ h.blk.lt)
      have g8 : (w.alloc (.map #[] 0)).frozen? ⟨b, 8, none⟩ = false := by rw [← f8]; exact World.frozen?_of_block (w := w) (Below.heap_alloc _ _ _ h.blk.lt)
      have heq := fun w => run_eql_map_nil (P := Try.prog) w 73 3 22 none Try.underlying73
      have hmm := fun w => run_makeMap (P := Try.prog) 73 w
      have HM : Kp _ := ⟨lies_made h hno⟩
      clear h ha hT hml hno
      go_enter Try.func14, Try.ntmps14
      go_wp2_with fail
      refine (load_any b ad t w HP.out.blk).mono ?_
      rintro e w1 ⟨rfl, rfl⟩
      go_wp2_with fail
      have HA1 : Kp _ := ⟨HA.out.nx HP.out.sub HM.out.2⟩
      clear HA HP c8 f8 a8 g8 heq hmm
      refine wp_region_any (by kernel_rfl) ?_
      change wpAny _ _ _ _ _ _ _ ((w1.alloc (.map #[] 0)).setCell ⟨b, 8, none⟩ (.map (some w1.heap.size))).drew
      have PS := (HM.out.1).below (Below.refl _ _).drew
      have NS : Nx w1 O ((w1.alloc (.map #[] 0)).setCell ⟨b, 8, none⟩ (.map (some w1.heap.size))).drew (lieO O w1.heap.size) := (HM.out.2).below (Below.refl _ _).drew
      have AS : Bs ((w1.alloc (.map #[] 0)).setCell ⟨b, 8, none⟩ (.map (some w1.heap.size))).drew ((w1.alloc (.map #[] 0)).setCell ⟨b, 8, none⟩ (.map (some w1.heap.size))).drew.heap.size A m c l := (HA1.out).bs.drew
      generalize ((w1.alloc (.map #[] 0)).setCell ⟨b, 8, none⟩ (.map (some w1.heap.size))).drew = wS at *
      have HP2 : Kp _ := ⟨PS⟩
      have HNS : Kp _ := ⟨NS⟩
      have HAs : Kp _ := ⟨AS⟩
      obtain ⟨m1, f1, hO1, hI1, hm1, hf1⟩ : ∃ m1 f1, (lieO O w1.heap.size) w1.heap.size ∧ MapI wS Try.prog 3 kvI okI w1.heap.size m1 f1 ∧ m1 ≤ t.nl ∧ ∀ z, okI z → LieAt wS (Or2 M (lieO O w1.heap.size)) (f1 z) (t.lies z) := by
        rcases PS.lies with ⟨h1, _⟩ | ⟨g', m1, f1, h1, h2, h3, h4, h5⟩
        · rw [(show ({ ad with ml := some w1.heap.size } : Ad).ml = some w1.heap.size from rfl)] at h1; cases h1
        · rw [(show ({ ad with ml := some w1.heap.size } : Ad).ml = some w1.heap.size from rfl)] at h1
          obtain rfl := Option.some.inj h1
          exact ⟨m1, f1, h2, h3, h4, h5⟩
      have hb0 : Below wS.heap.size wS wS := Below.refl _ _
      have HX : Kp (∀ W, Below wS.heap.size wS W → W.cell? ⟨b, 8, none⟩ = some (.map (some (w1.heap.size)))) := ⟨fun W hW => by rw [(PS.blk.below hW PS.blk.lt).cell? 8]; show some (Value.map (({ ad with ml := some w1.heap.size } : Ad).ml)) = _; rw [(show ({ ad with ml := some w1.heap.size } : Ad).ml = some w1.heap.size from rfl)]⟩
      have HX2 : Kp (∀ W, Below wS.heap.size wS W → MapI W Try.prog 3 kvI okI w1.heap.size m1 f1) := ⟨fun W hW => hI1.stay (hW.block w1.heap.size hI1.lt)⟩
      have HF : Kp (m1 ≤ 1000000 ∧ ∀ W v W2, Below wS.heap.size wS W → W.ownsRow wS.heap.size 5 1 v m (cells8 l) → MapI W2 Try.prog 3 kvI okI w1.heap.size (if (f1 n).isSome then m1 else m1 + 1) (fun y => if y = n then some v else f1 y) → Only w1.heap.size W W2 → Parts W2 (lieO O w1.heap.size) (Or2 M (lieO O w1.heap.size)) b ({ ad with ml := some w1.heap.size }) { t with lies := fun z => if z = n then some l else t.lies z, nl := t.nl + 1 } p L ∧ Nx wS (lieO O w1.heap.size) W2 (lieO O w1.heap.size)) := ⟨by omega, fun W v W2 hW hrow hI2 ho2 => by
        obtain ⟨Av, cv, rfl, hbv⟩ := BsM.of_own (M := Or2 M (lieO O w1.heap.size)) hrow PS.lt hm
        have PW := PS.below hW
        refine ⟨PW.lied (show ({ ad with ml := some w1.heap.size } : Ad).ml = some w1.heap.size from rfl) ho2 hI2 (by split <;> omega) (fun z hz => ?_), ((Nx.refl _ wS (fun k hk => PS.lt k (PS.sub k hk))).below hW).trans (Nx.only ho2 hO1 (fun k hk => PW.lt k (PW.sub k hk)))⟩
        by_cases e : z = n
        · rw [if_pos e, if_pos e]
          exact ⟨_, _, _, rfl, hbv⟩
        · rw [if_neg e, if_neg e]
          exact (hf1 z hz).chg (S := fun _ => False) (Chg.of_below _ hW) (fun _ h => h.elim) (fun _ h => .inl h)⟩
      clear PS NS AS hI1 hf1 hm1 hO1
      refine wpAny_take (i := 0) (oi := ⟨some 25, _, _, _, _, _⟩) (v := ?_) rfl (by kernel_rfl) (by kernel_rfl) (by kernel_rfl) (fun _ _ _ h => h) (Or.inl ⟨by rfl, by intro w; go_simp; try rfl⟩) ?_
      try simp only [Act.put, List.setIfInBounds_toArray, List.set_cons_zero, List.set_cons_succ]
      refine wpAny_take (i := 1) (oi := ⟨some 26, _, _, _, _, _⟩) (v := ?_) rfl (by kernel_rfl) (by kernel_rfl) (by kernel_rfl) (fun _ _ _ h => h) (Or.inl ⟨by rfl, by intro w; go_simp; try rfl⟩) ?_
      try simp only [Act.put, List.setIfInBounds_toArray, List.set_cons_zero, List.set_cons_succ]
      refine wpAny_take (i := 2) (oi := ⟨some 27, _, _, _, _, _⟩) (v := ?_) rfl (by kernel_rfl) (by kernel_rfl) (by kernel_rfl) (fun _ _ _ h => h) (Or.inl ⟨by rfl, by intro w; go_simp; try rfl⟩) ?_
      try simp only [Act.put, List.setIfInBounds_toArray, List.set_cons_zero, List.set_cons_succ]
      refine wpAny_take (i := 4) (oi := ⟨some 29, _, _, _, _, _⟩) (v := ?_) rfl (by kernel_rfl) (by kernel_rfl) (by kernel_rfl) (fun _ _ _ h => h) (Or.inl ⟨by rfl, by intro w; go_simp; try rfl⟩) ?_
      try simp only [Act.put, List.setIfInBounds_toArray, List.set_cons_zero, List.set_cons_succ]
      refine wpAny_take (i := 5) (oi := ⟨some 30, _, _, _, _, _⟩) (v := ?_) rfl (by kernel_rfl) (by kernel_rfl) (by kernel_rfl) (fun _ _ _ h => h) (Or.inl ⟨by rfl, by intro w; go_simp; try rfl⟩) ?_
      try simp only [Act.put, List.setIfInBounds_toArray, List.set_cons_zero, List.set_cons_succ]
      refine wpAny_ready (rs := [3, 6]) (by kernel_rfl) (by simp) ?_
      refine AllReady.cons (o := ⟨some 28, _, _, _, _, _⟩) rfl (fun K hK => ?_) (AllReady.cons (o := ⟨some 31, _, _, _, _, _⟩) rfl (fun K hK => ?_) AllReady.nil)
      · have c8' := HX.out wS hb0
        go_simp
        refine hK _ _ ?_
        clear hK K c8'
        try simp only [Act.put, List.setIfInBounds_toArray, List.set_cons_zero, List.set_cons_succ]
        refine wpAny_ready (rs := [6]) (by kernel_rfl) (by simp) ?_
        refine AllReady.cons (o := ⟨some 31, _, _, _, _, _⟩) rfl (fun K hK => ?_) AllReady.nil
        go_simp
        refine (clone_any A m c l wS HAs.out hm).mono ?_
        rintro e w62 ⟨v, rfl, ho', hb0'⟩
        replace hb0 := hb0'
        have HO : Kp _ := ⟨And.intro ho' hb0'⟩
        clear ho' hb0'
        refine hK _ _ ?_
        clear hK K
        try simp only [Act.put, List.setIfInBounds_toArray, List.set_cons_zero, List.set_cons_succ]
        refine wpAny_ready (rs := [7]) (by kernel_rfl) (by simp) ?_
        refine AllReady.cons (o := ⟨none, _, _, _, _, _⟩) rfl (fun K hK => ?_) AllReady.nil
        refine step_storeI (HX2.out w62 hb0) keyI rfl (.tmp 28) (.tmp 29) (.tmp 31) rfl Try.underlying73 (by have := HF.out.1; simp only [maxLen]; omega) rfl n hn rfl rfl ?_
        intro w63 hI' ho'
        have HR : Kp _ := ⟨HF.out.2 w62 _ w63 hb0 HO.out.1 hI' ho'⟩
        clear hI' ho'
        refine hK _ _ ?_
        clear hK K
        try simp only [Act.put]
        refine wpAny_done (by kernel_rfl) ?_ _
        go_wp2
        go_end0
        rw [HT.out]
        exact ⟨rfl, _, _, HR.out.1, HNS.out.trans HR.out.2⟩
      · go_simp
        refine (clone_any A m c l wS HAs.out hm).mono ?_
        rintro e w64 ⟨v, rfl, ho', hb0'⟩
        replace hb0 := hb0'
        have HO : Kp _ := ⟨And.intro ho' hb0'⟩
        clear ho' hb0'
        refine hK _ _ ?_
        clear hK K
        try simp only [Act.put, List.setIfInBounds_toArray, List.set_cons_zero, List.set_cons_succ]
        refine wpAny_ready (rs := [3]) (by kernel_rfl) (by simp) ?_
        refine AllReady.cons (o := ⟨some 28, _, _, _, _, _⟩) rfl (fun K hK => ?_) AllReady.nil
        have c8' := HX.out w64 hb0
        go_simp
        refine hK _ _ ?_
        clear hK K c8'
        try simp only [Act.put, List.setIfInBounds_toArray, List.set_cons_zero, List.set_cons_succ]
        refine wpAny_ready (rs := [7]) (by kernel_rfl) (by simp) ?_
        refine AllReady.cons (o := ⟨none, _, _, _, _, _⟩) rfl (fun K hK => ?_) AllReady.nil
        refine step_storeI (HX2.out w64 hb0) keyI rfl (.tmp 28) (.tmp 29) (.tmp 31) rfl Try.underlying73 (by have := HF.out.1; simp only [maxLen]; omega) rfl n hn rfl rfl ?_
        intro w66 hI' ho'
        have HR : Kp _ := ⟨HF.out.2 w64 _ w66 hb0 HO.out.1 hI' ho'⟩
        clear hI' ho'
        refine hK _ _ ?_
        clear hK K
        try simp only [Act.put]
        refine wpAny_done (by kernel_rfl) ?_ _
        go_wp2
        go_end0
        rw [HT.out]
        exact ⟨rfl, _, _, HR.out.1, HNS.out.trans HR.out.2⟩
end
end Go.Proofs.Ytpbpegoobgfjcaa

namespace Go.Proofs.Ytpbpegoobgfjcaa
open Go.RowKit

def z272 : List UInt8 := List.replicate 272 0
theorem tyCo : Ty Try.prog 78 (cells8 z272) := ⟨by kernel_rfl⟩
def newW (n : Nat) : Wd := { n := n, sl := fun _ => z272, s0 := [], s1 := [], ctr := 0, lim := false, lost := false, left := 0, reads := 0, lies := fun _ => none, nl := 0, tr := [] }
def newN (n : Int) : Nat := (min (max n 0) 4096).toNat
def ad0 (ms : Nat) : Ad := ⟨ms, none, .slice none 0 0, .slice none 0 0, .slice none 0 0⟩
theorem wd_built (ms : Nat) : (Try.prog).built 75 [(0, .map (some ms))] = some (wdCells (ad0 ms) (newW 0)).toArray := by kernel_rfl

def inR2 (i j : Nat) (x : Int × Int) : Bool := decide (0 ≤ x.1 ∧ 0 ≤ x.2 ∧ x.2 < 2 ∧ (x.1 < (i : Int) ∨ x.1 = (i : Int) ∧ x.2 < (j : Int)))
/-- so many slots there are: those of i blocks, and j more -/
structure NewP (w0 wr : World) (i j : Nat) (p : Int × Int → Option Nat) : Prop where
  map : MapI wr Try.prog 80 kvP okP w0.heap.size (2 * i + j) (fun x => (p x).map ptr)
  has : ∀ x, (p x).isSome = inR2 i j x
  own : ∀ x g, p x = some g → w0.heap.size ≤ g
  blk : ∀ x g, p x = some g → Blk wr g 78 (cells8 z272)
  inj : ∀ x y g, p x = some g → p y = some g → x = y
  world : Blk wr (w0.heap.size + 1) 75 (wdCells (ad0 w0.heap.size) (newW 0))
  below : Below w0.heap.size w0 wr
def NewI (w0 wr : World) (i j : Nat) : Prop := ∃ p, NewP w0 wr i j p
section
variable {w0 wr : World} {i j : Nat}
theorem NewI.next (h : NewI w0 wr i 2) : NewI w0 wr (i + 1) 0 := by
  obtain ⟨p, h⟩ := h
  refine ⟨p, h.map, fun x => (h.has x).trans ?_, h.own, h.blk, h.inj, h.world, h.below⟩
  unfold inR2
  rw [Bool.eq_iff_iff]
  simp only [decide_eq_true_eq]
  omega
theorem NewP.store {p : Int × Int → Option Nat} (h : NewP w0 wr i j p) (hj : j < 2) {w1 w2 : World} (hk : Blk w1 wr.heap.size 78 (cells8 z272)) (hb : Below wr.heap.size wr w1)
    (hI : MapI w2 Try.prog 80 kvP okP w0.heap.size (if ((fun x => (p x).map ptr) ((i : Int), (j : Int))).isSome then 2 * i + j else 2 * i + j + 1) (fun y => if y = ((i : Int), (j : Int)) then some (ptr wr.heap.size) else (p y).map ptr)) (ho : Only w0.heap.size w1 w2) : NewI w0 w2 i (j + 1) := by
  have hn : p ((i : Int), (j : Int)) = none := by
    have h1 := h.has ((i : Int), (j : Int))
    have h2 : inR2 i j ((i : Int), (j : Int)) = false := by
      unfold inR2
      rw [decide_eq_false_iff_not]
      simp only
      omega
    rw [h2] at h1
    simpa using h1
  have hl0 := h.map.lt
  have ne : ∀ {g : Nat} {t : TypeId} {cs : List Value}, Blk w1 g t cs → g ≠ w0.heap.size := fun {g t cs} hk e => by
    subst e
    obtain ⟨es, clock, hh⟩ := h.map.heap
    have := hk.heap
    rw [hb.block _ hl0, hh] at this
    cases this
  refine ⟨fun x => if x = ((i : Int), (j : Int)) then some wr.heap.size else p x, ?_, fun x => ?_, fun x g hg => ?_, fun x g hg => ?_, fun x y g hx hy => ?_, (h.world.below hb h.world.lt).only ho (ne (h.world.below hb h.world.lt)), h.below.trans ((hb.mono h.below.size).trans (ho.below (Nat.le_refl _)))⟩
  · simp only [hn, Option.map_none, Option.isSome_none] at hI
    have e : (fun y => if y = ((i : Int), (j : Int)) then some (ptr wr.heap.size) else (p y).map ptr) = (fun x => ((if x = ((i : Int), (j : Int)) then some wr.heap.size else p x) : Option Nat).map ptr) := by
      funext y
      by_cases hy : y = ((i : Int), (j : Int)) <;> simp [hy]
    rw [e] at hI
    exact hI
  · by_cases hx : x = ((i : Int), (j : Int))
    · rw [if_pos hx, hx]
      unfold inR2
      symm
      rw [Option.isSome_some, decide_eq_true_eq]
      exact ⟨Int.natCast_nonneg _, Int.natCast_nonneg _, by show (j : Int) < 2; omega, .inr ⟨rfl, by show (j : Int) < ((j + 1 : Nat) : Int); omega⟩⟩
    · rw [if_neg hx, h.has x]
      unfold inR2
      rw [Bool.eq_iff_iff]
      simp only [decide_eq_true_eq]
      have : ¬ (x.1 = (i : Int) ∧ x.2 = (j : Int)) := fun ⟨h1, h2⟩ => hx (Prod.ext h1 h2)
      omega
  · by_cases hx : x = ((i : Int), (j : Int))
    · rw [if_pos hx] at hg
      have h1 := Option.some.inj hg
      have h2 := h.below.size
      omega
    · rw [if_neg hx] at hg
      exact h.own x g hg
  · by_cases hx : x = ((i : Int), (j : Int))
    · rw [if_pos hx] at hg
      obtain rfl := Option.some.inj hg
      exact hk.only ho (ne hk)
    · rw [if_neg hx] at hg
      have h1 := (h.blk x g hg).below hb (h.blk x g hg).lt
      exact h1.only ho (ne h1)
  · by_cases hx1 : x = ((i : Int), (j : Int)) <;> by_cases hy1 : y = ((i : Int), (j : Int))
    · rw [hx1, hy1]
    · rw [if_pos hx1] at hx
      rw [if_neg hy1] at hy
      have h1 := Option.some.inj hx
      have h2 := (h.blk y g hy).lt
      omega
    · rw [if_neg hx1] at hx
      rw [if_pos hy1] at hy
      have h1 := Option.some.inj hy
      have h2 := (h.blk x g hx).lt
      omega
    · rw [if_neg hx1] at hx
      rw [if_neg hy1] at hy
      exact h.inj x y g hx hy
/-- the World that is made -/
theorem NewI.parts {n : Nat} (h : NewI w0 wr n 0) (hn : n ≤ 4096) : ∃ O p, Parts wr O O (w0.heap.size + 1) (ad0 w0.heap.size) (newW n) p [] ∧ ∀ k, O k → w0.heap.size ≤ k := by
  obtain ⟨p, h⟩ := h
  refine ⟨fun k => k = w0.heap.size + 1 ∨ k = w0.heap.size ∨ ∃ x, p x = some k, p, ⟨fun _ h => h, fun k hk => ?_, .inl rfl, h.world, ?_, .inl ⟨rfl, fun _ _ => rfl⟩, ⟨none, 0, 0, rfl, BsM.zero _ _⟩, ⟨none, 0, 0, rfl, BsM.zero _ _⟩, ⟨World.ownsRow_nil _ _ _ _, fun g hg => (by cases hg), TrL.nil _ _⟩, hn, by simp [newW], by simp [newW], by simp [newW], by simp [ad0]⟩, fun k hk => ?_⟩
  · rcases hk with rfl | rfl | ⟨x, hx⟩
    · exact h.world.lt
    · exact h.map.lt
    · exact (h.blk x k hx).lt
  · refine ⟨.inr (.inl rfl), h.map, fun x => (h.has x).trans ?_, fun x g hg => .inr (.inr ⟨x, hg⟩), h.blk, fun x g _ => by show z272.length = 272; simp only [z272, List.length_replicate], h.inj⟩
    unfold inR2 inR
    rw [Bool.eq_iff_iff]
    simp only [decide_eq_true_eq, Bool.and_eq_true]
    show _ ↔ ((0 ≤ x.1 ∧ x.1 < (n : Int)) ∧ 0 ≤ x.2) ∧ x.2 < 2
    omega
  · rcases hk with rfl | rfl | ⟨x, hx⟩
    · omega
    · omega
    · exact h.own x k hx
end

set_option maxRecDepth 100000 in
set_option maxHeartbeats 2000000 in
theorem new_any (N : Nat) (w : World) (hNb : N ≤ 4096) :
    Calls Try.prog 11 #[.int .i64 (N : Int)] w fun e w' => e = .returned (.pointer (some ⟨w.heap.size + 1, 0, none⟩)) ∧ (∃ O p, Parts w' O O (w.heap.size + 1) (ad0 w.heap.size) (newW N) p [] ∧ ∀ k, O k → w.heap.size ≤ k) ∧ Below w.heap.size w w' := by
  have hmm := run_makeMapI (P := Try.prog) 64 ((N : Int) * 2) Try.underlying64
  have HBu : Kp _ := ⟨wd_built w.heap.size⟩
  have HM0 : Kp _ := ⟨MapI.made w Try.prog 80 kvP okP⟩
  have h1 : 0 ≤ (N : Int) := by omega
  have h2 : (N : Int) ≤ 4096 := by omega
  have hw2 : wrap64 ((N : Int) * 2) = (N : Int) * 2 := by unfold wrap64; omega
  go_enter Try.func11, Try.ntmps11
  go_wp2_with (first | (refine wpList_build1 (o := ⟨some 13, _, _, _, _, _⟩) rfl 0 (.tmp 12) rfl rfl HBu.out ?_) | (with_reducible refine wpList_box (o := ⟨some 14, _, _, _, _, _⟩) (cs := wdCells (ad0 w.heap.size) (newW 0)) rfl (.tmp 13) rfl rfl ?_))
  intro w1 hk1 hb1 hs1
  have hba : Below w.heap.size w (w.alloc (.map #[] 0)) := (Below.refl _ _).alloc (Nat.le_refl _) _
  have h0 : NewI w w1 0 0 := ⟨fun _ => none, HM0.out.stay (hb1.block _ (by simp)), fun x => by unfold inR2; symm; rw [Option.isSome_none, decide_eq_false_iff_not]; omega, fun _ _ h => (by cases h), fun _ _ h => (by cases h), fun _ _ _ h => (by cases h), by simpa using hk1, hba.trans (hb1.mono (by simp))⟩
  have H0 : Kp _ := ⟨h0⟩
  clear hk1 hb1 hs1 h0 hba HM0 HBu
  go_wp2
  go_loopg [16] N (fun gk v16 wr => ∃ i : Nat, i + gk = N ∧ v16 = .int .i64 i ∧ Kp (NewI w wr i 0))
  case atStart => exact ⟨0, by omega, rfl, H0⟩
  case round =>
    obtain ⟨i, hi, rfl, HI⟩ := hrel
    cases gk with
    | zero =>
      have hiN : i = N := by omega
      have hlt : ¬ ((i : Int) < ((N : Nat) : Int)) := by omega
      have HI2 : Kp (NewI w wr N 0) := ⟨hiN ▸ HI.out⟩
      clear hiN HI
      go_wp2
      go_ret
      obtain ⟨O, p, hP, hO⟩ := HI2.out.parts hNb
      obtain ⟨p', hp'⟩ := HI2.out
      exact ⟨rfl, ⟨O, ⟨p, hP⟩, hO⟩, hp'.below⟩
    | succ g2 =>
      have hlt : (i : Int) < ((N : Nat) : Int) := by omega
      have hI6 : (i : Int) < 100000 := by omega
      go_wp2
      go_loopg [19] 2 (fun gj v19 wx => ∃ j : Nat, j + gj = 2 ∧ v19 = .int .i64 j ∧ Kp (NewI w wx i j))
      case atStart => exact ⟨0, by omega, rfl, HI⟩
      case round =>
        clear HI H0
        obtain ⟨j, hj, rfl, HJ⟩ := hrel
        cases gk with
        | zero =>
          obtain rfl : j = 2 := by omega
          go_wp2
          go_roundg g2
          case measure => omega
          case rel => exact ⟨i + 1, by omega, by go_num, ⟨HJ.out.next⟩⟩
        | succ g3 =>
          have hj2 : (j : Int) < 2 := by omega
          have hj3 : j < 2 := by omega
          obtain ⟨p, hp⟩ := HJ.out
          have HP : Kp _ := ⟨hp⟩
          have c0 : wr.cell? ⟨w.heap.size + 1, 0, none⟩ = some (.map (some w.heap.size)) := by rw [hp.world.cell? 0]; rfl
          have HOk : Kp (okP ((i : Int), (j : Int))) := ⟨WalkArith.wf_i64 (by omega), WalkArith.wf_i64 (by omega)⟩
          have HLm : Kp (2 * i + j < maxLen) := ⟨by simp only [maxLen]; omega⟩
          clear hp HJ
          go_wp2_with (with_reducible refine wpList_alloc (o := ⟨some 29, _, _, _, _, _⟩) tyCo rfl rfl ?_)
          intro w3 hk3 hb3 hs3
          obtain ⟨cnt, hcnt⟩ : ∃ cnt, cnt = 2 * i + j := ⟨_, rfl⟩
          obtain ⟨f, hf⟩ : ∃ f : Int × Int → Option Value, f = fun x => (p x).map ptr := ⟨_, rfl⟩
          have hm3 := HP.out.map.stay (hb3.block _ HP.out.map.lt)
          rw [← hcnt, ← hf] at hm3
          have HM3 : Kp _ := ⟨hm3⟩
          have HCf : Kp (cnt = 2 * i + j ∧ f = fun x => (p x).map ptr) := ⟨hcnt, hf⟩
          have HLc : Kp (cnt < maxLen) := ⟨by rw [hcnt]; exact HLm.out⟩
          clear hcnt hf hm3
          have HK3 : Kp _ := ⟨And.intro hk3 hb3⟩
          clear hk3 hb3 hs3
          go_wp2_with (at_mapUpdate; refine wpList_storeI (o := ⟨none, _, _, _, _, _⟩) (u := ptr wr.heap.size) HM3.out keyP rfl (.tmp 25) (.tmp 28) (.tmp 29) rfl Try.underlying64 HLc.out rfl ((i : Int), (j : Int)) HOk.out rfl rfl ?_; intro w4 hI4 ho4; rw [HCf.out.1, HCf.out.2] at hI4; have HN4 : Kp _ := ⟨HP.out.store hj3 HK3.out.1 HK3.out.2 hI4 ho4⟩; clear hI4 ho4 HP c0 HM3 HK3 HLm HCf HLc)
          go_roundg g3
          case measure => omega
          case rel => exact ⟨j + 1, by omega, by go_num, HN4⟩
end Go.Proofs.Ytpbpegoobgfjcaa

namespace Go.Proofs.Ytpbpegoobgfjcaa
open Go.RowKit

set_option maxHeartbeats 400000 in
theorem same_any (A B : Option Addr) (n c m d : Nat) (xs ys : List UInt8) (w : World) (L M : Nat) (ha : Bs w L A n c xs) (hb : Bs w M B m d ys) :
    Calls Try.prog 15 #[.slice A n c, .slice B m d] w fun e w' => e = .returned (.bool (xs == ys)) ∧ w = w' := by
  have e1 := ha.text Try.underlying22 Try.underlying5 Try.underlying9
  have e2 := hb.text Try.underlying22 Try.underlying5 Try.underlying9
  clear ha hb
  go_enter Try.func15, Try.ntmps15
  go_wp2
  go_ret
  exact ⟨rfl, rfl⟩

end Go.Proofs.Ytpbpegoobgfjcaa

namespace Go.Proofs.Ytpbpegoobgfjcaa
open Go.RowKit

abbrev Held := Option Addr × Nat × Nat × List UInt8
/-- how much was done -/
structure Sm (k : Nat) (t : Wd) : Prop where
  tr : t.tr.length ≤ k
  reads : t.reads ≤ k
  nl : t.nl ≤ k
def Each (w : World) (M : Nat → Prop) : List (Nat → Prop) → List (Nat × Wd) → Prop
  | [], [] => True
  | O :: Os, x :: xs => WIs w O M x.1 x.2 ∧ (∀ Q ∈ Os, ∀ k, O k → ¬ Q k) ∧ Each w M Os xs
  | _, _ => False
/-- what lay apart when it was looked at is as it was -/
structure Snap (s : World × (Nat → Prop)) (w : World) (M : Nat → Prop) : Prop where
  chg : Chg s.2 s.1 w
  new : ∀ k, M k → s.2 k ∨ s.1.heap.size ≤ k
theorem Snap.next {s : World × (Nat → Prop)} {w w' : World} {M M' S : Nat → Prop} (h : Snap s w M) (hc : Chg S w w') (hS : ∀ k, S k → M k) (hM : ∀ k, M' k → M k ∨ w.heap.size ≤ k) : Snap s w' M' :=
  ⟨h.chg.trans hc (fun k hk hs => (h.new k (hS k hs)).elim id (fun h9 => absurd hk (by omega))), fun k hk => (hM k hk).elim (h.new k) (fun h9 => .inr (Nat.le_trans h.chg.size h9))⟩
structure StS (w0 w : World) (k : Nat) (ws : List (Nat × Wd)) (hs : List Held) (sn : List (World × (Nat → Prop))) : Prop where
  is : ∃ M Os, Each w M Os ws ∧ (∀ k, M k → k < w.heap.size) ∧ (∀ k, M k → w0.heap.size ≤ k) ∧ (∀ h ∈ hs, BsM w M h.1 h.2.1 h.2.2.1 h.2.2.2) ∧ ∀ s ∈ sn, Snap s w M
  below : Below w0.heap.size w0 w
  small : ∀ x ∈ ws, Sm k x.2
abbrev St (w0 w : World) (k : Nat) (ws : List (Nat × Wd)) (hs : List Held) : Prop := StS w0 w k ws hs []
section
variable {w0 w w' : World} {k b : Nat} {t : Wd} {ws : List (Nat × Wd)} {hs : List Held} {M : Nat → Prop} {sn : List (World × (Nat → Prop))}
theorem Each.chg {S : Nat → Prop} {M' : Nat → Prop} (hc : Chg S w w') (hSM : ∀ k, S k → M k) (hM : ∀ k, M' k → M k ∨ w.heap.size ≤ k) (hMM : ∀ k, M k → M' k) (hlt : ∀ k, M' k → k < w'.heap.size) :
    ∀ {Os : List (Nat → Prop)} {ws : List (Nat × Wd)}, (∀ Q ∈ Os, ∀ k, S k → ¬ Q k) → Each w M Os ws → Each w' M' Os ws
  | [], [], _, _ => trivial
  | O :: Os, x :: xs, hd, h => by
    obtain ⟨⟨ad, p, L, hP⟩, h2, h3⟩ := h
    exact ⟨⟨ad, p, L, hP.chg hc (fun k hk => hd O (by simp) k hk) hSM hM hMM hlt⟩, h2, Each.chg hc hSM hM hMM hlt (fun Q hQ => hd Q (by simp [hQ])) h3⟩
  | [], _ :: _, _, h => h.elim
  | _ :: _, [], _, h => h.elim
theorem Each.lt : ∀ {Os : List (Nat → Prop)} {ws : List (Nat × Wd)}, Each w M Os ws → ∀ Q ∈ Os, ∀ k, Q k → k < w.heap.size
  | [], [], _, Q, hQ => by cases hQ
  | O :: Os, x :: xs, h, Q, hQ => by
    obtain ⟨⟨ad, p, L, hP⟩, h2, h3⟩ := h
    rcases List.mem_cons.1 hQ with rfl | hQ
    · exact fun k hk => hP.lt k (hP.sub k hk)
    · exact Each.lt h3 Q hQ
  | [], _ :: _, h, _, _ => h.elim
  | _ :: _, [], h, _, _ => h.elim
theorem St.start (w : World) : St w w 0 [] [] := ⟨⟨fun _ => False, [], trivial, fun _ h => h.elim, fun _ h => h.elim, (fun _ h => by cases h), (fun _ h => by cases h)⟩, Below.refl _ _, fun _ h => by cases h⟩
theorem StS.more (h : StS w0 w k ws hs sn) {k' : Nat} (hk : k ≤ k') : StS w0 w k' ws hs sn := ⟨h.is, h.below, fun x hx => ⟨Nat.le_trans (h.small x hx).tr hk, Nat.le_trans (h.small x hx).reads hk, Nat.le_trans (h.small x hx).nl hk⟩⟩
theorem StS.heldM (h : StS w0 w k ws hs sn) {A : Option Addr} {n c : Nat} {l : List UInt8} (hm : (A, n, c, l) ∈ hs) : Bs w w.heap.size A n c l ∧ n ≤ 4294967296 := by
  obtain ⟨M, Os, _, _, _, hh, _⟩ := h.is
  exact ⟨(hh _ hm).bs, (hh _ hm).fit⟩
theorem StS.arg (h : StS w0 w k ws hs sn) {A : Option Addr} {n c : Nat} {l : List UInt8} (ha : Bs w0 w0.heap.size A n c l) : Bs w w.heap.size A n c l := (ha.below h.below).more h.below.size
/-- an argument of the statement's is held -/
theorem StS.hold (h : StS w0 w k ws hs sn) {A : Option Addr} {n c : Nat} {l : List UInt8} (ha : Bs w0 w0.heap.size A n c l) (hn : n ≤ 4294967296) : StS w0 w k ws ((A, n, c, l) :: hs) sn := by
  obtain ⟨M, Os, h1, h2, h3, h4, h5⟩ := h.is
  refine ⟨⟨M, Os, h1, h2, h3, fun x hx => ?_, h5⟩, h.below, h.small⟩
  rcases List.mem_cons.1 hx with rfl | hx
  · exact BsM.of_bs (ha.below h.below) h.below.size h3 hn
  · exact h4 x hx
/-- what lies apart from all, new -/
theorem StS.grow (h : StS w0 w k ws hs sn) (hb : Below w.heap.size w w') : StS w0 w' k ws hs sn := by
  obtain ⟨M, Os, h1, h2, h3, h4, h5⟩ := h.is
  have hlt : ∀ k, M k → k < w'.heap.size := fun k hk => Nat.lt_of_lt_of_le (h2 k hk) hb.size
  refine ⟨⟨M, Os, h1.chg (S := fun _ => False) (Chg.of_below _ hb) (fun _ h => h.elim) (fun _ h => .inl h) (fun _ h => h) hlt (fun _ _ _ h => h.elim), hlt, h3, (fun x hx => (h4 x hx).below hb), fun s hs => (h5 s hs).next (Chg.of_below (fun _ => False) hb) (fun _ h => h.elim) (fun _ h => .inl h)⟩, h.below.trans (hb.mono h.below.size), h.small⟩
/-- .. of which bytes are held -/
theorem StS.growHold (h : StS w0 w k ws hs sn) (hb : Below w.heap.size w w') {v : Value} {e : TypeId} {n : Nat} {l : List UInt8} (ho : w'.ownsRow w.heap.size e 1 v n (cells8 l)) (hn : n ≤ 4294967296) : ∃ A c, v = .slice A n c ∧ StS w0 w' k ws ((A, n, c, l) :: hs) sn := by
  obtain ⟨M0, Os0, g1, g2, g3, g4, g5⟩ := h.is
  have hlt : ∀ k, M0 k → k < w'.heap.size := fun k hk => Nat.lt_of_lt_of_le (g2 k hk) hb.size
  obtain ⟨A, c, rfl, hB⟩ := BsM.of_own (M := M0) ho g2 hn
  refine ⟨A, c, rfl, ⟨M0, Os0, g1.chg (S := fun _ => False) (Chg.of_below _ hb) (fun _ h => h.elim) (fun _ h => .inl h) (fun _ h => h) hlt (fun _ _ _ h => h.elim), hlt, g3, fun x hx => ?_, fun s hs => (g5 s hs).next (Chg.of_below (fun _ => False) hb) (fun _ h => h.elim) (fun _ h => .inl h)⟩, h.below.trans (hb.mono h.below.size), h.small⟩
  rcases List.mem_cons.1 hx with rfl | hx
  · exact hB
  · exact (g4 x hx).below hb
theorem StS.drew (h : StS w0 w k ws hs sn) : StS w0 w.drew k ws hs sn := h.grow (Below.refl _ _).drew
theorem StS.forget (h : StS w0 w k ws hs sn) {hs' : List Held} (hsub : ∀ x ∈ hs', x ∈ hs) : StS w0 w k ws hs' sn := by
  obtain ⟨M, Os, h1, h2, h3, h4, h5⟩ := h.is
  exact ⟨⟨M, Os, h1, h2, h3, (fun x hx => h4 x (hsub x hx)), h5⟩, h.below, h.small⟩
theorem Each.swap {x y : Nat × Wd} {Os : List (Nat → Prop)} (h1 : Each w M Os [x, y]) : ∃ Qs, Each w M Qs [y, x] := by
  cases Os with
  | nil => exact h1.elim
  | cons O Os =>
    obtain ⟨a, d, h2⟩ := h1
    cases Os with
    | nil => exact h2.elim
    | cons Q Os =>
      obtain ⟨a2, _, h3⟩ := h2
      refine ⟨[Q, O], a2, fun R hR k hq ho => ?_, a, (fun _ h => by cases h), trivial⟩
      obtain rfl : R = O := by simpa using hR
      exact d Q (by simp) k ho hq
theorem StS.swap {x y : Nat × Wd} (h : StS w0 w k [x, y] hs sn) : StS w0 w k [y, x] hs sn := by
  obtain ⟨M, Os, h1, h2, h3, h4, h5⟩ := h.is
  obtain ⟨Qs, hQ⟩ := h1.swap
  refine ⟨⟨M, Qs, hQ, h2, h3, h4, h5⟩, h.below, fun z hz => h.small z ?_⟩
  simp only [List.mem_cons, List.not_mem_nil, or_false] at hz ⊢
  exact hz.symm
/-- the first World, to be worked on -/
theorem StS.use (h : StS w0 w k ((b, t) :: ws) hs sn) : ∃ O M ad p L, Parts w O M b ad t p L ∧ (∀ x ∈ hs, BsM w M x.1 x.2.1 x.2.2.1 x.2.2.2) ∧
    ∀ w' O' ad' t' p' L', Parts w' O' (Or2 M O') b ad' t' p' L' → Nx w O w' O' → Sm (k + 1) t' → StS w0 w' (k + 1) ((b, t') :: ws) hs sn ∧ ∀ A n c l, BsM w' (Or2 M O') A n c l → StS w0 w' (k + 1) ((b, t') :: ws) ((A, n, c, l) :: hs) sn := by
  obtain ⟨M, Os, h1, h2, h3, h4, h5⟩ := h.is
  match Os, h1 with
  | O :: Os, h1 =>
    obtain ⟨⟨ad, p, L, hP⟩, hd, hE⟩ := h1
    refine ⟨O, M, ad, p, L, hP, h4, fun w' O' ad' t' p' L' hP' hN hS => ?_⟩
    have hM := or2_new hP.sub hN
    have hlt := or2_lt hP.lt hN
    have hE' : Each w' (Or2 M O') Os ws := hE.chg hN.chg hP.sub hM (fun _ h => .inl h) hlt hd
    have h0 : ∀ k, Or2 M O' k → w0.heap.size ≤ k := fun k hk => (hM k hk).elim (h3 k) (fun h9 => Nat.le_trans h.below.size h9)
    have hB : Below w0.heap.size w0 w' := h.below.trans (hN.chg.below (fun k hk => h3 k (hP.sub k hk)) h.below.size)
    have hdis : ∀ Q ∈ Os, ∀ k, O' k → ¬ Q k := fun Q hQ k hk hq => by
      rcases hN.new k hk with h9 | h9
      · exact hd Q hQ k h9 hq
      · have := hE.lt Q hQ k hq
        omega
    have hsm : ∀ x ∈ (b, t') :: ws, Sm (k + 1) x.2 := fun x hx => by
      rcases List.mem_cons.1 hx with rfl | hx
      · exact hS
      · have := h.small x (by simp [hx])
        exact ⟨by have := this.tr; omega, by have := this.reads; omega, by have := this.nl; omega⟩
    have hsn : ∀ s ∈ sn, Snap s w' (Or2 M O') := fun s hs => (h5 s hs).next hN.chg hP.sub hM
    have hh : ∀ x ∈ hs, BsM w' (Or2 M O') x.1 x.2.1 x.2.2.1 x.2.2.2 := fun x hx => (h4 x hx).nx hP.sub hN
    refine ⟨⟨⟨Or2 M O', O' :: Os, ⟨⟨ad', p', L', hP'⟩, hdis, hE'⟩, hlt, h0, hh, hsn⟩, hB, hsm⟩, fun A n c l hb => ⟨⟨Or2 M O', O' :: Os, ⟨⟨ad', p', L', hP'⟩, hdis, hE'⟩, hlt, h0, fun x hx => ?_, hsn⟩, hB, hsm⟩⟩
    rcases List.mem_cons.1 hx with rfl | hx
    · exact hb
    · exact hh x hx
theorem StS.slen (h : StS w0 w k ((b, t) :: ws) hs sn) {x : Int × Int} (hx : inR t.n x = true) : (t.sl x).length = 272 := by
  obtain ⟨O, M, ad, p, L, hP, _⟩ := h.use
  have h1 := hP.slots.has x
  rw [hx] at h1
  obtain ⟨g, hg⟩ := Option.isSome_iff_exists.1 h1
  exact hP.slots.len x g hg
theorem StS.left (h : StS w0 w k ((b, t) :: ws) hs sn) : t.left ≤ 1000000 ∧ t.ctr < 18446744073709551616 := by
  obtain ⟨O, M, ad, p, L, hP, _⟩ := h.use
  exact ⟨hP.pow, hP.num⟩

/-- to look at it now -/
theorem StS.snap (h : StS w0 w k ws hs sn) : ∃ M, (∀ k, M k → k < w.heap.size) ∧ StS w0 w k ws hs ((w, M) :: sn) := by
  obtain ⟨M, Os, h1, h2, h3, h4, h5⟩ := h.is
  refine ⟨M, h2, ⟨M, Os, h1, h2, h3, h4, fun s hs => ?_⟩, h.below, h.small⟩
  rcases List.mem_cons.1 hs with rfl | hs
  · exact ⟨Chg.refl _ _, fun _ h => .inl h⟩
  · exact h5 s hs
theorem StS.seen (h : StS w0 w k ws hs sn) {s : World × (Nat → Prop)} (hs : s ∈ sn) : Chg s.2 s.1 w := by
  obtain ⟨M, Os, _, _, _, _, h5⟩ := h.is
  exact (h5 s hs).chg
theorem StS.unsee (h : StS w0 w k ws hs sn) {sn' : List (World × (Nat → Prop))} (hsub : ∀ x ∈ sn', x ∈ sn) : StS w0 w k ws hs sn' := by
  obtain ⟨M, Os, h1, h2, h3, h4, h5⟩ := h.is
  exact ⟨⟨M, Os, h1, h2, h3, h4, fun s hs => h5 s (hsub s hs)⟩, h.below, h.small⟩
/-! ### how much is done by each -/
theorem sm_up (h : Sm k t) : Sm (k + 1) t := ⟨by have := h.tr; omega, by have := h.reads; omega, by have := h.nl; omega⟩
theorem sm_tell (h : Sm k t) (a b c : Int) (l : List UInt8) : Sm (k + 1) (tellW t a b c l) := ⟨by have := h.tr; simp [tellW]; omega, by have := h.reads; simp [tellW]; omega, by have := h.nl; simp [tellW]; omega⟩
theorem sm_read (h : Sm k t) (x : Int × Int) : Sm (k + 1) (readW t x) := by
  unfold readW; split
  · exact sm_tell h _ _ _ _
  · exact sm_up h
theorem sm_look (h : Sm k t) (i : Int) : Sm (k + 1) (lookW t i) := by
  unfold lookW; split
  · exact sm_tell h _ _ _ _
  · exact sm_up h
theorem sm_lay (h : Sm k t) (n : Nat) : Sm k (layW t n) := by
  obtain ⟨_, _, _, _, _, q6, q7, _, q9, _⟩ := layW_same t n
  exact ⟨by rw [q7]; exact h.tr, by rw [q9]; exact h.reads, by rw [q6]; exact h.nl⟩
theorem sm_note (h : Sm k t) (x : Tr) : Sm (k + 1) { t with tr := t.tr ++ [x] } := ⟨by have := h.tr; simp; omega, by have := h.reads; simp; omega, by have := h.nl; simp; omega⟩
theorem sm_write (h : Sm k t) (x : Int × Int) (l : List UInt8) : Sm (k + 1) (writeW t x l) := by
  unfold writeW; split
  · have := sm_lay (sm_note h ⟨2, x.1, x.2, l⟩) 272
    exact ⟨this.tr, this.reads, this.nl⟩
  · exact sm_up h
theorem sm_seal (h : Sm k t) (i : Int) (l : List UInt8) : Sm (k + 1) (sealedW t i l) := by
  unfold sealedW; split
  · have := sm_lay (sm_note h ⟨4, i, 0, l⟩) l.length
    split
    · exact ⟨this.tr, this.reads, this.nl⟩
    · exact ⟨this.tr, this.reads, this.nl⟩
  · exact sm_up h
theorem sm_bump (h : Sm k t) : Sm (k + 1) (bumpW t) := by
  obtain ⟨_, _, _, _, _, q6, q7, _, q9⟩ := takeW_same t
  have h1 := sm_up h
  unfold bumpW
  split
  · exact h1
  · split
    · exact h1
    · split
      · exact ⟨by have := h.tr; simp; omega, by rw [show ({ takeW t with ctr := t.ctr + 1, tr := t.tr ++ [⟨5, 0, 0, []⟩] } : Wd).reads = (takeW t).reads from rfl, q9]; exact h1.reads, by rw [show ({ takeW t with ctr := t.ctr + 1, tr := t.tr ++ [⟨5, 0, 0, []⟩] } : Wd).nl = (takeW t).nl from rfl, q6]; exact h1.nl⟩
      · exact ⟨by rw [q7]; exact h1.tr, by rw [q9]; exact h1.reads, by rw [q6]; exact h1.nl⟩
theorem sm_lie (h : Sm k t) (n : Int) (l : List UInt8) : Sm (k + 1) (lieW t n l) := by
  unfold lieW; split
  · exact sm_up h
  · exact ⟨by have := h.tr; simp; omega, by have := h.reads; simp; omega, by have := h.nl; simp; omega⟩
theorem sm_arm (h : Sm k t) (n : Int) : Sm (k + 1) (armW t n) := by
  unfold armW; split
  · exact sm_up h
  · exact sm_up ⟨h.tr, h.reads, h.nl⟩
theorem sm_restart (h : Sm k t) : Sm (k + 1) (restartW t) := sm_up ⟨h.tr, h.reads, h.nl⟩
theorem sm_set (h : Sm k t) (n : Nat) : Sm (k + 1) (setW t n) := sm_up ⟨h.tr, h.reads, h.nl⟩

/-! ### the methods -/
theorem st_new (h : StS w0 w k ws hs sn) (N : Nat) (hN : N ≤ 4096) :
    Calls Try.prog 11 #[.int .i64 (N : Int)] w fun e w' => ∃ b, e = .returned (.pointer (some ⟨b, 0, none⟩)) ∧ StS w0 w' k ((b, newW N) :: ws) hs sn := by
  refine (new_any N w hN).mono ?_
  rintro e w' ⟨rfl, ⟨O, p, hP, hO⟩, hb⟩
  obtain ⟨M, Os, h1, h2, h3, h4, h5⟩ := h.is
  have hlt : ∀ k, Or2 M O k → k < w'.heap.size := fun k hk => hk.elim (fun h9 => Nat.lt_of_lt_of_le (h2 k h9) hb.size) (hP.lt k)
  have hM : ∀ k, Or2 M O k → M k ∨ w.heap.size ≤ k := fun k hk => hk.imp id (hO k)
  refine ⟨_, rfl, ⟨Or2 M O, O :: Os, ⟨⟨ad0 w.heap.size, p, [], ?_⟩, fun Q hQ k hk hq => ?_, ?_⟩, hlt, fun k hk => (hM k hk).elim (h3 k) (fun h9 => Nat.le_trans h.below.size h9), fun x hx => ?_, fun s hs => (h5 s hs).next (Chg.of_below (fun _ => False) hb) (fun _ h => h.elim) hM⟩, h.below.trans (hb.mono h.below.size), fun x hx => ?_⟩
  · exact ⟨fun k hk => .inr hk, hlt, hP.ob, hP.blk, hP.slots, .inl ⟨rfl, fun _ _ => rfl⟩, ⟨none, 0, 0, rfl, BsM.zero _ _⟩, ⟨none, 0, 0, rfl, BsM.zero _ _⟩, ⟨hP.trace.own, hP.trace.mine, TrL.nil _ _⟩, hP.big, hP.pow, hP.num, hP.read, hP.two⟩
  · have := h1.lt Q hQ k hq
    have := hO k hk
    omega
  · exact h1.chg (S := fun _ => False) (Chg.of_below _ hb) (fun _ h => h.elim) hM (fun _ h => .inl h) hlt (fun _ _ _ h => h.elim)
  · exact (h4 x hx).chg (S := fun _ => False) (Chg.of_below _ hb) (fun _ h => h.elim) hM
  · rcases List.mem_cons.1 hx with rfl | hx
    · exact ⟨Nat.zero_le _, Nat.zero_le _, Nat.zero_le _⟩
    · exact h.small x hx
theorem StS.first (h : StS w0 w k ((b, t) :: ws) hs sn) : Sm k t := h.small (b, t) (by simp)
theorem st_read (h : StS w0 w k ((b, t) :: ws) hs sn) (hk : k ≤ 1000000) (x y : Int) (hx : okP (x, y)) :
    Calls Try.prog 13 #[.pointer (some ⟨b, 0, none⟩), .int .i64 x, .int .i64 y] w fun e w' => ∃ A n c, e = .returned (.slice A n c) ∧ StS w0 w' (k + 1) ((b, readW t (x, y)) :: ws) ((A, n, c, readL t (x, y)) :: hs) sn := by
  obtain ⟨O, M, ad, p, L, hP, _, hU⟩ := h.use
  refine (read_any hP x y hx (by have := h.first.tr; omega) (by have := h.first.reads; omega)).mono ?_
  rintro e w' ⟨A, n, c, ad', L', O', rfl, hP', hN, hB⟩
  exact ⟨A, n, c, rfl, (hU _ _ _ _ _ _ hP' hN (sm_read h.first _)).2 _ _ _ _ hB⟩
theorem st_look (h : StS w0 w k ((b, t) :: ws) hs sn) (hk : k ≤ 1000000) (i : Int) :
    Calls Try.prog 30 #[.pointer (some ⟨b, 0, none⟩), .int .i64 i] w fun e w' => ∃ A n c, e = .returned (.slice A n c) ∧ StS w0 w' (k + 1) ((b, lookW t i) :: ws) ((A, n, c, lookL t i) :: hs) sn := by
  obtain ⟨O, M, ad, p, L, hP, _, hU⟩ := h.use
  refine (look_any hP i (by have := h.first.tr; omega) (by have := h.first.reads; omega)).mono ?_
  rintro e w' ⟨A, n, c, ad', L', O', rfl, hP', hN, hB⟩
  exact ⟨A, n, c, rfl, (hU _ _ _ _ _ _ hP' hN (sm_look h.first _)).2 _ _ _ _ hB⟩
theorem st_write (h : StS w0 w k ((b, t) :: ws) hs sn) (hk : k ≤ 1000000) (x y : Int) (hx : okP (x, y)) (A : Option Addr) (n c : Nat) (l : List UInt8) (hm : (A, n, c, l) ∈ hs) :
    Calls Try.prog 12 #[.pointer (some ⟨b, 0, none⟩), .int .i64 x, .int .i64 y, .slice A n c] w fun e w' => e = .returned (.bool (writeB t (x, y))) ∧ StS w0 w' (k + 1) ((b, writeW t (x, y) l) :: ws) hs sn := by
  obtain ⟨O, M, ad, p, L, hP, hH, hU⟩ := h.use
  refine (write_any hP x y hx A n c l (hH _ hm) (by have := h.first.tr; omega)).mono ?_
  rintro e w' ⟨ad', L', O', rfl, hP', hN⟩
  exact ⟨rfl, (hU _ _ _ _ _ _ hP' hN (sm_write h.first _ _)).1⟩
theorem st_seal (h : StS w0 w k ((b, t) :: ws) hs sn) (hk : k ≤ 1000000) (i : Int) (A : Option Addr) (n c : Nat) (l : List UInt8) (hm : (A, n, c, l) ∈ hs) :
    Calls Try.prog 29 #[.pointer (some ⟨b, 0, none⟩), .int .i64 i, .slice A n c] w fun e w' => e = .returned (.bool (sealB t i l)) ∧ StS w0 w' (k + 1) ((b, sealedW t i l) :: ws) hs sn := by
  obtain ⟨O, M, ad, p, L, hP, hH, hU⟩ := h.use
  refine (seal_any hP i A n c l (hH _ hm) (by have := h.first.tr; omega)).mono ?_
  rintro e w' ⟨rfl, ad', L', O', hP', hN⟩
  exact ⟨rfl, (hU _ _ _ _ _ _ hP' hN (sm_seal h.first _ _)).1⟩
theorem st_bump (h : StS w0 w k ((b, t) :: ws) hs sn) (hk : k ≤ 1000000) :
    Calls Try.prog 18 #[.pointer (some ⟨b, 0, none⟩)] w fun e w' => e = .returned (.bool (bumpB t)) ∧ StS w0 w' (k + 1) ((b, bumpW t) :: ws) hs sn := by
  obtain ⟨O, M, ad, p, L, hP, _, hU⟩ := h.use
  refine (bump_any hP (by have := h.first.tr; omega)).mono ?_
  rintro e w' ⟨rfl, ad', L', O', hP', hN⟩
  exact ⟨rfl, (hU _ _ _ _ _ _ hP' hN (sm_bump h.first)).1⟩
theorem st_lie (h : StS w0 w k ((b, t) :: ws) hs sn) (hk : k ≤ 1000000) (i : Int) (hi : okI i) (A : Option Addr) (n c : Nat) (l : List UInt8) (hm : (A, n, c, l) ∈ hs) :
    Calls Try.prog 14 #[.pointer (some ⟨b, 0, none⟩), .int .i64 i, .slice A n c] w fun e w' => e = .returned (.tuple #[]) ∧ StS w0 w' (k + 1) ((b, lieW t i l) :: ws) hs sn := by
  obtain ⟨O, M, ad, p, L, hP, hH, hU⟩ := h.use
  refine (lie_any hP i hi A n c l (hH _ hm) (by have := h.first.nl; omega)).mono ?_
  rintro e w' ⟨rfl, ad', O', hP', hN⟩
  exact ⟨rfl, (hU _ _ _ _ _ _ hP' hN (sm_lie h.first _ _)).1⟩
theorem st_arm (h : StS w0 w k ((b, t) :: ws) hs sn) (n : Int) :
    Calls Try.prog 16 #[.pointer (some ⟨b, 0, none⟩), .int .i64 n] w fun e w' => e = .returned (.tuple #[]) ∧ StS w0 w' (k + 1) ((b, armW t n) :: ws) hs sn := by
  obtain ⟨O, M, ad, p, L, hP, _, hU⟩ := h.use
  refine (arm_any hP n).mono ?_
  rintro e w' ⟨rfl, hP', hN⟩
  exact ⟨rfl, (hU _ _ _ _ _ _ hP'.stayO hN (sm_arm h.first _)).1⟩
theorem st_restart (h : StS w0 w k ((b, t) :: ws) hs sn) :
    Calls Try.prog 20 #[.pointer (some ⟨b, 0, none⟩)] w fun e w' => e = .returned (.tuple #[]) ∧ StS w0 w' (k + 1) ((b, restartW t) :: ws) hs sn := by
  obtain ⟨O, M, ad, p, L, hP, _, hU⟩ := h.use
  refine (restart_any hP).mono ?_
  rintro e w' ⟨rfl, hP', hN⟩
  exact ⟨rfl, (hU _ _ _ _ _ _ hP'.stayO hN (sm_restart h.first)).1⟩
theorem st_set (h : StS w0 w k ((b, t) :: ws) hs sn) (n : Nat) (hn : n < 18446744073709551616) :
    Calls Try.prog 31 #[.pointer (some ⟨b, 0, none⟩), .int .u64 (n : Int)] w fun e w' => e = .returned (.tuple #[]) ∧ StS w0 w' (k + 1) ((b, setW t n) :: ws) hs sn := by
  obtain ⟨O, M, ad, p, L, hP, _, hU⟩ := h.use
  refine (set_any hP n hn).mono ?_
  rintro e w' ⟨rfl, hP', hN⟩
  exact ⟨rfl, (hU _ _ _ _ _ _ hP'.stayO hN (sm_set h.first _)).1⟩
theorem st_dead (h : StS w0 w k ((b, t) :: ws) hs sn) :
    Calls Try.prog 17 #[.pointer (some ⟨b, 0, none⟩)] w fun e w' => e = .returned (.bool t.lost) ∧ w' = w := by
  obtain ⟨O, M, ad, p, L, hP, _⟩ := h.use
  exact dead_any b ad t w hP.blk
theorem st_counter (h : StS w0 w k ((b, t) :: ws) hs sn) :
    Calls Try.prog 19 #[.pointer (some ⟨b, 0, none⟩)] w fun e w' => e = .returned (.int .u64 (ctrW t : Int)) ∧ w' = w := by
  obtain ⟨O, M, ad, p, L, hP, _⟩ := h.use
  exact counter_any hP
theorem st_same (h : StS w0 w k ws hs sn) {A B : Option Addr} {n c m d : Nat} {l l' : List UInt8} (h1 : (A, n, c, l) ∈ hs) (h2 : (B, m, d, l') ∈ hs) :
    Calls Try.prog 15 #[.slice A n c, .slice B m d] w fun e w' => e = .returned (.bool (l == l')) ∧ w = w' :=
  same_any A B n c m d l l' w _ _ (h.heldM h1).1 (h.heldM h2).1
end
end Go.Proofs.Ytpbpegoobgfjcaa
