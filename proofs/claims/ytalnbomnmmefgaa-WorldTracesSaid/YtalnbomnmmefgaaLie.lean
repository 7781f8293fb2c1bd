/- The contract of World's Lie. -/
import Derived.Test.YtalnbomnmmefgaaTel
import Derived.Test.YtalnbomnmmefgaaRead
namespace Go.Proofs.Ytalnbomnmmefgaa
open Go.RowKit
section
variable {P : Program} {w : World} {k t e : TypeId} {κ : Type} {kv : κ → Value} {ok : κ → Prop} {b n : Nat} {f : κ → Option Value} {ops : Array Oper} {o : Oper} {a : Act} {Q : Exit → Act → World → Prop}
theorem step_storeI [DecidableEq κ] {K : Act → World → Prop} {C : Prop} (h : MapI w P k kv ok b n f) (T : KeyT P k kv ok) (hgd : o.guard = none) (m y v : Operand) (hop : o.op = Op.mapUpdate t m y v) (ht : P.underlying t = some (.map k e)) (hn : n < maxLen)
    (hm : a.eval m = .map (some b)) (x : κ) (hx : ok x) (hy : a.eval y = kv x) {u : Value} (hv : a.eval v = u)
    (hK : ∀ w', MapI w' P k kv ok b (if (f x).isSome then n else n + 1) (fun y => if y = x then some u else f y) → Only b w w' → K (a.put o.dst undef) w') :
    if Region.wanted o (yielded ops a.tmps) = true then Oper.wp P o a w K Q else C := by
  have hw : Region.wanted o (yielded ops a.tmps) = true := by simp [Region.wanted, hgd]
  rw [if_pos hw]
  obtain ⟨w', hr, h1, h2⟩ := h.store T ht hn hx u
  unfold Oper.wp
  simp [execOp, hop, hm, hy, hv, hr, Result.andThen]
  exact hK w' h1 h2
end
section
variable {O M : Nat → Prop} {b : Nat} {ad : Ad} {t : Wd} {p : Int × Int → Option Nat} {L : List Hd4} {w : World}
def lieW (t : Wd) (n : Int) (l : List UInt8) : Wd := if n < (t.reads : Int) then t else { t with lies := fun z => if z = n then some l else t.lies z, nl := t.nl + 1 }
def lieO (O : Nat → Prop) (g : Nat) : Nat → Prop := fun k => O k ∨ k = g
/-- a map for lies is made -/
theorem lies_made (h : Parts w O M b ad t p L) (hno : ∀ z, okI z → t.lies z = none) :
    Parts ((w.alloc (.map #[] 0)).setCell ⟨b, 8, none⟩ (.map (some w.heap.size))) (lieO O w.heap.size) (Or2 M (lieO O w.heap.size)) b { ad with ml := some w.heap.size } t p L ∧ Nx w O ((w.alloc (.map #[] 0)).setCell ⟨b, 8, none⟩ (.map (some w.heap.size))) (lieO O w.heap.size) := by
  have hlt := fun k hk => h.lt k (h.sub k hk)
  have hbl := h.blk.lt
  have hb1 : Below w.heap.size w (w.alloc (.map #[] 0)) := (Below.refl _ _).alloc (Nat.le_refl _) _
  have ho := Only.setCell (w.alloc (.map #[] 0)) ⟨b, 8, none⟩ (.map (some w.heap.size))
  have C : Chg O w ((w.alloc (.map #[] 0)).setCell ⟨b, 8, none⟩ (.map (some w.heap.size))) := (Chg.of_below O hb1).trans (Chg.of_only (S := O) ho h.ob) (fun _ _ h => h)
  have keep : ∀ k, k < w.heap.size → k ≠ b → ((w.alloc (.map #[] 0)).setCell ⟨b, 8, none⟩ (.map (some w.heap.size))).heap[k]? = w.heap[k]? := fun k hk hkb => (ho.block k hkb).trans (hb1.block k hk)
  have NX : Nx w O ((w.alloc (.map #[] 0)).setCell ⟨b, 8, none⟩ (.map (some w.heap.size))) (lieO O w.heap.size) :=
    ⟨C, fun k hk => .inl hk, fun k hk => hk.imp id (fun (e : k = w.heap.size) => by omega), fun k hk => by
      rcases hk with h1 | h1
      · exact Nat.lt_of_lt_of_le (hlt k h1) C.size
      · subst h1; simp [World.setCell]⟩
  have hM := or2_new h.sub NX
  refine ⟨⟨fun k hk => .inr hk, or2_lt h.lt NX, .inl h.ob, ?_, ?_, ?_, h.seal0.chg C h.sub hM, h.seal1.chg C h.sub hM, ?_, h.big, h.pow, h.num, h.read, ?_⟩, NX⟩
  · have h8 := (h.blk.below hb1 hbl).set 8 (.map (some w.heap.size))
    exact h8
  · refine h.slots.stay (fun _ h => .inl h) (fun k hk hkk => keep k (hlt k hk) ?_)
    rcases hkk with h1 | h1
    · exact h1.ne h.blk.row
    · exact h1.ne h.blk.row (by decide)
  · refine .inr ⟨w.heap.size, 0, fun _ => none, rfl, .inr rfl, ?_, Nat.zero_le _, fun z hz => by rw [hno z hz]; trivial⟩
    exact (MapI.made w _ _ _ _).stay (ho.block _ (show w.heap.size ≠ b by omega))
  · exact h.trace.stay (fun _ h => .inl h) (fun k hk hkk => keep k (hlt k hk) (hkk.ne h.blk.row (by decide))) C h.sub hM
  · intro e
    have e1 : w.heap.size = ad.ms := Option.some.inj e
    have := h.slots.map.lt
    omega

set_option maxRecDepth 100000 in
set_option maxHeartbeats 1000000 in
/-- where there is a map -/
theorem lie_some (h : Parts w O M b ad t p L) (n : Int) (hn : okI n) (hnr : ¬ n < (t.reads : Int)) (A : Option Addr) (m c : Nat) (l : List UInt8) (ha : BsM w M A m c l) (hnl : t.nl ≤ 1000000) (g : Nat) (hg : ad.ml = some g) :
    Calls Try.prog 14 #[.pointer (some ⟨b, 0, none⟩), .int .i64 n, .slice A m c] w fun e w' => e = .returned (.tuple #[]) ∧ Parts w' O M b ad { t with lies := fun z => if z = n then some l else t.lies z, nl := t.nl + 1 } p L ∧ Nx w O w' O := by
  have HP : Kp _ := ⟨h⟩
  have HA : Kp _ := ⟨ha⟩
  have hm := ha.fit
  have c8 : w.cell? ⟨b, 8, none⟩ = some (.map (some g)) := by rw [h.blk.cell? 8, ← hg]; rfl
  have heq := fun w => run_eql_map_nil (P := Try.prog) w 73 3 22 (some g) Try.underlying73
  have HG : Kp _ := ⟨hg⟩
  clear h ha hg
  go_enter Try.func14, Try.ntmps14
  go_wp2_with fail
  refine (load_any b ad t w HP.out.blk).mono ?_
  rintro e w1 ⟨rfl, rfl⟩
  go_wp2_with fail
  refine wp_region_any (by kernel_rfl) ?_
  change wpAny _ _ _ _ _ _ _ (w1).drew
  have PS := (HP.out).below (Below.refl _ _).drew
  have NS : Nx w1 O (w1).drew (O) := (HP.out.nx).below (Below.refl _ _).drew
  have AS : Bs (w1).drew (w1).drew.heap.size A m c l := (HA.out).bs.drew
  generalize (w1).drew = wS at *
  have HP2 : Kp _ := ⟨PS⟩
  have HNS : Kp _ := ⟨NS⟩
  have HAs : Kp _ := ⟨AS⟩
  obtain ⟨m1, f1, hO1, hI1, hm1, hf1⟩ : ∃ m1 f1, (O) g ∧ MapI wS Try.prog 3 kvI okI g m1 f1 ∧ m1 ≤ t.nl ∧ ∀ z, okI z → LieAt wS (M) (f1 z) (t.lies z) := by
    rcases PS.lies with ⟨h1, _⟩ | ⟨g', m1, f1, h1, h2, h3, h4, h5⟩
    · rw [HG.out] at h1; cases h1
    · rw [HG.out] at h1
      obtain rfl := Option.some.inj h1
      exact ⟨m1, f1, h2, h3, h4, h5⟩
  have hb0 : Below wS.heap.size wS wS := Below.refl _ _
  have HX : Kp (∀ W, Below wS.heap.size wS W → W.cell? ⟨b, 8, none⟩ = some (.map (some (g)))) := ⟨fun W hW => by rw [(PS.blk.below hW PS.blk.lt).cell? 8]; show some (Value.map (ad.ml)) = _; rw [HG.out]⟩
  have HX2 : Kp (∀ W, Below wS.heap.size wS W → MapI W Try.prog 3 kvI okI g m1 f1) := ⟨fun W hW => hI1.stay (hW.block g hI1.lt)⟩
  have HF : Kp (m1 ≤ 1000000 ∧ ∀ W v W2, Below wS.heap.size wS W → W.ownsRow wS.heap.size 5 1 v m (cells8 l) → MapI W2 Try.prog 3 kvI okI g (if (f1 n).isSome then m1 else m1 + 1) (fun y => if y = n then some v else f1 y) → Only g W W2 → Parts W2 (O) (M) b (ad) { t with lies := fun z => if z = n then some l else t.lies z, nl := t.nl + 1 } p L ∧ Nx wS (O) W2 (O)) := ⟨by omega, fun W v W2 hW hrow hI2 ho2 => by
    obtain ⟨Av, cv, rfl, hbv⟩ := BsM.of_own (M := M) hrow PS.lt hm
    have PW := PS.below hW
    refine ⟨PW.lied HG.out ho2 hI2 (by split <;> omega) (fun z hz => ?_), ((Nx.refl _ wS (fun k hk => PS.lt k (PS.sub k hk))).below hW).trans (Nx.only ho2 hO1 (fun k hk => PW.lt k (PW.sub k hk)))⟩
    by_cases e : z = n
    · rw [if_pos e, if_pos e]
      exact ⟨_, _, _, rfl, hbv⟩
    · rw [if_neg e, if_neg e]
      exact (hf1 z hz).chg (S := fun _ => False) (Chg.of_below _ hW) (fun _ h => h.elim) (fun _ h => .inl h)⟩
  clear PS NS AS hI1 hf1 hm1 hO1
  refine wpAny_take (i := 0) (oi := ⟨some 25, _, _, _, _, _⟩) (v := ?_) rfl (by kernel_rfl) (by kernel_rfl) (by kernel_rfl) (fun _ _ _ h => h) (Or.inl ⟨by rfl, by intro w; go_simp; try rfl⟩) ?_
  try simp only [Act.put, List.setIfInBounds_toArray, List.set_cons_zero, List.set_cons_succ]
  refine wpAny_take (i := 1) (oi := ⟨some 26, _, _, _, _, _⟩) (v := ?_) rfl (by kernel_rfl) (by kernel_rfl) (by kernel_rfl) (fun _ _ _ h => h) (Or.inl ⟨by rfl, by intro w; go_simp; try rfl⟩) ?_
  try simp only [Act.put, List.setIfInBounds_toArray, List.set_cons_zero, List.set_cons_succ]
  refine wpAny_take (i := 2) (oi := ⟨some 27, _, _, _, _, _⟩) (v := ?_) rfl (by kernel_rfl) (by kernel_rfl) (by kernel_rfl) (fun _ _ _ h => h) (Or.inl ⟨by rfl, by intro w; go_simp; try rfl⟩) ?_
  try simp only [Act.put, List.setIfInBounds_toArray, List.set_cons_zero, List.set_cons_succ]
  refine wpAny_take (i := 4) (oi := ⟨some 29, _, _, _, _, _⟩) (v := ?_) rfl (by kernel_rfl) (by kernel_rfl) (by kernel_rfl) (fun _ _ _ h => h) (Or.inl ⟨by rfl, by intro w; go_simp; try rfl⟩) ?_
  try simp only [Act.put, List.setIfInBounds_toArray, List.set_cons_zero, List.set_cons_succ]
  refine wpAny_take (i := 5) (oi := ⟨some 30, _, _, _, _, _⟩) (v := ?_) rfl (by kernel_rfl) (by kernel_rfl) (by kernel_rfl) (fun _ _ _ h => h) (Or.inl ⟨by rfl, by intro w; go_simp; try rfl⟩) ?_
  try simp only [Act.put, List.setIfInBounds_toArray, List.set_cons_zero, List.set_cons_succ]
  refine wpAny_ready (rs := [3, 6]) (by kernel_rfl) (by simp) ?_
  refine AllReady.cons (o := ⟨some 28, _, _, _, _, _⟩) rfl (fun K hK => ?_) (AllReady.cons (o := ⟨some 31, _, _, _, _, _⟩) rfl (fun K hK => ?_) AllReady.nil)
  · have c8' := HX.out wS hb0
    go_simp
    refine hK _ _ ?_
    clear hK K c8'
    try simp only [Act.put, List.setIfInBounds_toArray, List.set_cons_zero, List.set_cons_succ]
    refine wpAny_ready (rs := [6]) (by kernel_rfl) (by simp) ?_
    refine AllReady.cons (o := ⟨some 31, _, _, _, _, _⟩) rfl (fun K hK => ?_) AllReady.nil
    go_simp
    refine (clone_any A m c l wS HAs.out hm).mono ?_
    rintro e w62 ⟨v, rfl, ho', hb0'⟩
    replace hb0 := hb0'
    have HO : Kp _ := ⟨And.intro ho' hb0'⟩
    clear ho' hb0'
    refine hK _ _ ?_
    clear hK K
    try simp only [Act.put, List.setIfInBounds_toArray, List.set_cons_zero, List.set_cons_succ]
    refine wpAny_ready (rs := [7]) (by kernel_rfl) (by simp) ?_
    refine AllReady.cons (o := ⟨none, _, _, _, _, _⟩) rfl (fun K hK => ?_) AllReady.nil
    refine step_storeI (HX2.out w62 hb0) keyI rfl (.tmp 28) (.tmp 29) (.tmp 31) rfl Try.underlying73 (by have := HF.out.1; simp only [maxLen]; omega) rfl n hn rfl rfl ?_
    intro w63 hI' ho'
    have HR : Kp _ := ⟨HF.out.2 w62 _ w63 hb0 HO.out.1 hI' ho'⟩
    clear hI' ho'
    refine hK _ _ ?_
    clear hK K
    try simp only [Act.put]
    refine wpAny_done (by kernel_rfl) ?_ _
    go_wp2
    go_end0
    exact ⟨rfl, HR.out.1, HNS.out.trans HR.out.2⟩
  · go_simp
    refine (clone_any A m c l wS HAs.out hm).mono ?_
    rintro e w64 ⟨v, rfl, ho', hb0'⟩
    replace hb0 := hb0'
    have HO : Kp _ := ⟨And.intro ho' hb0'⟩
    clear ho' hb0'
    refine hK _ _ ?_
    clear hK K
    try simp only [Act.put, List.setIfInBounds_toArray, List.set_cons_zero, List.set_cons_succ]
    refine wpAny_ready (rs := [3]) (by kernel_rfl) (by simp) ?_
    refine AllReady.cons (o := ⟨some 28, _, _, _, _, _⟩) rfl (fun K hK => ?_) AllReady.nil
    have c8' := HX.out w64 hb0
    go_simp
    refine hK _ _ ?_
    clear hK K c8'
    try simp only [Act.put, List.setIfInBounds_toArray, List.set_cons_zero, List.set_cons_succ]
    refine wpAny_ready (rs := [7]) (by kernel_rfl) (by simp) ?_
    refine AllReady.cons (o := ⟨none, _, _, _, _, _⟩) rfl (fun K hK => ?_) AllReady.nil
    refine step_storeI (HX2.out w64 hb0) keyI rfl (.tmp 28) (.tmp 29) (.tmp 31) rfl Try.underlying73 (by have := HF.out.1; simp only [maxLen]; omega) rfl n hn rfl rfl ?_
    intro w66 hI' ho'
    have HR : Kp _ := ⟨HF.out.2 w64 _ w66 hb0 HO.out.1 hI' ho'⟩
    clear hI' ho'
    refine hK _ _ ?_
    clear hK K
    try simp only [Act.put]
    refine wpAny_done (by kernel_rfl) ?_ _
    go_wp2
    go_end0
    exact ⟨rfl, HR.out.1, HNS.out.trans HR.out.2⟩
set_option maxRecDepth 100000 in
set_option maxHeartbeats 1000000 in
theorem lie_any (h : Parts w O M b ad t p L) (n : Int) (hn : okI n) (A : Option Addr) (m c : Nat) (l : List UInt8) (ha : BsM w M A m c l) (hnl : t.nl ≤ 1000000) :
    Calls Try.prog 14 #[.pointer (some ⟨b, 0, none⟩), .int .i64 n, .slice A m c] w fun e w' => e = .returned (.tuple #[]) ∧ ∃ ad' O', Parts w' O' (Or2 M O') b ad' (lieW t n l) p L ∧ Nx w O w' O' := by
  by_cases hnr : n < (t.reads : Int)
  · have HP : Kp _ := ⟨h⟩
    have HT : Kp (lieW t n l = t) := ⟨by unfold lieW; rw [if_pos hnr]⟩
    have hd : decide (n < (t.reads : Int)) = true := decide_eq_true hnr
    clear h ha
    go_enter Try.func14, Try.ntmps14
    go_wp2_with fail
    refine (load_any b ad t w HP.out.blk).mono ?_
    rintro e w1 ⟨rfl, rfl⟩
    go_wp2
    refine bodyPost_ret (v := .tuple #[]) (results_none rfl _ _ _) rfl ?_
    rw [HT.out]
    exact ⟨rfl, ad, O, HP.out.stayO, HP.out.nx⟩
  · have hT : lieW t n l = { t with lies := fun z => if z = n then some l else t.lies z, nl := t.nl + 1 } := by unfold lieW; rw [if_neg hnr]
    cases hml : ad.ml with
    | some g =>
      refine (lie_some h n hn hnr A m c l ha hnl g hml).mono ?_
      rintro e w' ⟨rfl, P', N'⟩
      rw [hT]
      exact ⟨rfl, ad, O, P'.stayO, N'⟩
    | none =>
      have hno : ∀ z, okI z → t.lies z = none := by
        rcases h.lies with ⟨_, h2⟩ | ⟨g, m', f, h1, _⟩
        · exact h2
        · rw [hml] at h1; cases h1
      have HP : Kp _ := ⟨h⟩
      have HA : Kp _ := ⟨ha⟩
      have HT : Kp _ := ⟨hT⟩
      have hm := ha.fit
      have c8 : w.cell? ⟨b, 8, none⟩ = some (.map none) := by rw [h.blk.cell? 8, ← hml]; rfl
      have f8 := h.blk.frozen 8
      have a8 : (w.alloc (.map #[] 0)).cell? ⟨b, 8, none⟩ = some (.map none) := by rw [← c8]; exact World.cell?_of_block (w := w) (Below.heap_alloc _ _ _ h.blk.lt)
      have g8 : (w.alloc (.map #[] 0)).frozen? ⟨b, 8, none⟩ = false := by rw [← f8]; exact World.frozen?_of_block (w := w) (Below.heap_alloc _ _ _ h.blk.lt)
      have heq := fun w => run_eql_map_nil (P := Try.prog) w 73 3 22 none Try.underlying73
      have hmm := fun w => run_makeMap (P := Try.prog) 73 w
      have HM : Kp _ := ⟨lies_made h hno⟩
      clear h ha hT hml hno
      go_enter Try.func14, Try.ntmps14
      go_wp2_with fail
      refine (load_any b ad t w HP.out.blk).mono ?_
      rintro e w1 ⟨rfl, rfl⟩
      go_wp2_with fail
      have HA1 : Kp _ := ⟨HA.out.nx HP.out.sub HM.out.2⟩
      clear HA HP c8 f8 a8 g8 heq hmm
      refine wp_region_any (by kernel_rfl) ?_
      change wpAny _ _ _ _ _ _ _ ((w1.alloc (.map #[] 0)).setCell ⟨b, 8, none⟩ (.map (some w1.heap.size))).drew
      have PS := (HM.out.1).below (Below.refl _ _).drew
      have NS : Nx w1 O ((w1.alloc (.map #[] 0)).setCell ⟨b, 8, none⟩ (.map (some w1.heap.size))).drew (lieO O w1.heap.size) := (HM.out.2).below (Below.refl _ _).drew
      have AS : Bs ((w1.alloc (.map #[] 0)).setCell ⟨b, 8, none⟩ (.map (some w1.heap.size))).drew ((w1.alloc (.map #[] 0)).setCell ⟨b, 8, none⟩ (.map (some w1.heap.size))).drew.heap.size A m c l := (HA1.out).bs.drew
      generalize ((w1.alloc (.map #[] 0)).setCell ⟨b, 8, none⟩ (.map (some w1.heap.size))).drew = wS at *
      have HP2 : Kp _ := ⟨PS⟩
      have HNS : Kp _ := ⟨NS⟩
      have HAs : Kp _ := ⟨AS⟩
      obtain ⟨m1, f1, hO1, hI1, hm1, hf1⟩ : ∃ m1 f1, (lieO O w1.heap.size) w1.heap.size ∧ MapI wS Try.prog 3 kvI okI w1.heap.size m1 f1 ∧ m1 ≤ t.nl ∧ ∀ z, okI z → LieAt wS (Or2 M (lieO O w1.heap.size)) (f1 z) (t.lies z) := by
        rcases PS.lies with ⟨h1, _⟩ | ⟨g', m1, f1, h1, h2, h3, h4, h5⟩
        · rw [(show ({ ad with ml := some w1.heap.size } : Ad).ml = some w1.heap.size from rfl)] at h1; cases h1
        · rw [(show ({ ad with ml := some w1.heap.size } : Ad).ml = some w1.heap.size from rfl)] at h1
          obtain rfl := Option.some.inj h1
          exact ⟨m1, f1, h2, h3, h4, h5⟩
      have hb0 : Below wS.heap.size wS wS := Below.refl _ _
      have HX : Kp (∀ W, Below wS.heap.size wS W → W.cell? ⟨b, 8, none⟩ = some (.map (some (w1.heap.size)))) := ⟨fun W hW => by rw [(PS.blk.below hW PS.blk.lt).cell? 8]; show some (Value.map (({ ad with ml := some w1.heap.size } : Ad).ml)) = _; rw [(show ({ ad with ml := some w1.heap.size } : Ad).ml = some w1.heap.size from rfl)]⟩
      have HX2 : Kp (∀ W, Below wS.heap.size wS W → MapI W Try.prog 3 kvI okI w1.heap.size m1 f1) := ⟨fun W hW => hI1.stay (hW.block w1.heap.size hI1.lt)⟩
      have HF : Kp (m1 ≤ 1000000 ∧ ∀ W v W2, Below wS.heap.size wS W → W.ownsRow wS.heap.size 5 1 v m (cells8 l) → MapI W2 Try.prog 3 kvI okI w1.heap.size (if (f1 n).isSome then m1 else m1 + 1) (fun y => if y = n then some v else f1 y) → Only w1.heap.size W W2 → Parts W2 (lieO O w1.heap.size) (Or2 M (lieO O w1.heap.size)) b ({ ad with ml := some w1.heap.size }) { t with lies := fun z => if z = n then some l else t.lies z, nl := t.nl + 1 } p L ∧ Nx wS (lieO O w1.heap.size) W2 (lieO O w1.heap.size)) := ⟨by omega, fun W v W2 hW hrow hI2 ho2 => by
        obtain ⟨Av, cv, rfl, hbv⟩ := BsM.of_own (M := Or2 M (lieO O w1.heap.size)) hrow PS.lt hm
        have PW := PS.below hW
        refine ⟨PW.lied (show ({ ad with ml := some w1.heap.size } : Ad).ml = some w1.heap.size from rfl) ho2 hI2 (by split <;> omega) (fun z hz => ?_), ((Nx.refl _ wS (fun k hk => PS.lt k (PS.sub k hk))).below hW).trans (Nx.only ho2 hO1 (fun k hk => PW.lt k (PW.sub k hk)))⟩
        by_cases e : z = n
        · rw [if_pos e, if_pos e]
          exact ⟨_, _, _, rfl, hbv⟩
        · rw [if_neg e, if_neg e]
          exact (hf1 z hz).chg (S := fun _ => False) (Chg.of_below _ hW) (fun _ h => h.elim) (fun _ h => .inl h)⟩
      clear PS NS AS hI1 hf1 hm1 hO1
      refine wpAny_take (i := 0) (oi := ⟨some 25, _, _, _, _, _⟩) (v := ?_) rfl (by kernel_rfl) (by kernel_rfl) (by kernel_rfl) (fun _ _ _ h => h) (Or.inl ⟨by rfl, by intro w; go_simp; try rfl⟩) ?_
      try simp only [Act.put, List.setIfInBounds_toArray, List.set_cons_zero, List.set_cons_succ]
      refine wpAny_take (i := 1) (oi := ⟨some 26, _, _, _, _, _⟩) (v := ?_) rfl (by kernel_rfl) (by kernel_rfl) (by kernel_rfl) (fun _ _ _ h => h) (Or.inl ⟨by rfl, by intro w; go_simp; try rfl⟩) ?_
      try simp only [Act.put, List.setIfInBounds_toArray, List.set_cons_zero, List.set_cons_succ]
      refine wpAny_take (i := 2) (oi := ⟨some 27, _, _, _, _, _⟩) (v := ?_) rfl (by kernel_rfl) (by kernel_rfl) (by kernel_rfl) (fun _ _ _ h => h) (Or.inl ⟨by rfl, by intro w; go_simp; try rfl⟩) ?_
      try simp only [Act.put, List.setIfInBounds_toArray, List.set_cons_zero, List.set_cons_succ]
      refine wpAny_take (i := 4) (oi := ⟨some 29, _, _, _, _, _⟩) (v := ?_) rfl (by kernel_rfl) (by kernel_rfl) (by kernel_rfl) (fun _ _ _ h => h) (Or.inl ⟨by rfl, by intro w; go_simp; try rfl⟩) ?_
      try simp only [Act.put, List.setIfInBounds_toArray, List.set_cons_zero, List.set_cons_succ]
      refine wpAny_take (i := 5) (oi := ⟨some 30, _, _, _, _, _⟩) (v := ?_) rfl (by kernel_rfl) (by kernel_rfl) (by kernel_rfl) (fun _ _ _ h => h) (Or.inl ⟨by rfl, by intro w; go_simp; try rfl⟩) ?_
      try simp only [Act.put, List.setIfInBounds_toArray, List.set_cons_zero, List.set_cons_succ]
      refine wpAny_ready (rs := [3, 6]) (by kernel_rfl) (by simp) ?_
      refine AllReady.cons (o := ⟨some 28, _, _, _, _, _⟩) rfl (fun K hK => ?_) (AllReady.cons (o := ⟨some 31, _, _, _, _, _⟩) rfl (fun K hK => ?_) AllReady.nil)
      · have c8' := HX.out wS hb0
        go_simp
        refine hK _ _ ?_
        clear hK K c8'
        try simp only [Act.put, List.setIfInBounds_toArray, List.set_cons_zero, List.set_cons_succ]
        refine wpAny_ready (rs := [6]) (by kernel_rfl) (by simp) ?_
        refine AllReady.cons (o := ⟨some 31, _, _, _, _, _⟩) rfl (fun K hK => ?_) AllReady.nil
        go_simp
        refine (clone_any A m c l wS HAs.out hm).mono ?_
        rintro e w62 ⟨v, rfl, ho', hb0'⟩
        replace hb0 := hb0'
        have HO : Kp _ := ⟨And.intro ho' hb0'⟩
        clear ho' hb0'
        refine hK _ _ ?_
        clear hK K
        try simp only [Act.put, List.setIfInBounds_toArray, List.set_cons_zero, List.set_cons_succ]
        refine wpAny_ready (rs := [7]) (by kernel_rfl) (by simp) ?_
        refine AllReady.cons (o := ⟨none, _, _, _, _, _⟩) rfl (fun K hK => ?_) AllReady.nil
        refine step_storeI (HX2.out w62 hb0) keyI rfl (.tmp 28) (.tmp 29) (.tmp 31) rfl Try.underlying73 (by have := HF.out.1; simp only [maxLen]; omega) rfl n hn rfl rfl ?_
        intro w63 hI' ho'
        have HR : Kp _ := ⟨HF.out.2 w62 _ w63 hb0 HO.out.1 hI' ho'⟩
        clear hI' ho'
        refine hK _ _ ?_
        clear hK K
        try simp only [Act.put]
        refine wpAny_done (by kernel_rfl) ?_ _
        go_wp2
        go_end0
        rw [HT.out]
        exact ⟨rfl, _, _, HR.out.1, HNS.out.trans HR.out.2⟩
      · go_simp
        refine (clone_any A m c l wS HAs.out hm).mono ?_
        rintro e w64 ⟨v, rfl, ho', hb0'⟩
        replace hb0 := hb0'
        have HO : Kp _ := ⟨And.intro ho' hb0'⟩
        clear ho' hb0'
        refine hK _ _ ?_
        clear hK K
        try simp only [Act.put, List.setIfInBounds_toArray, List.set_cons_zero, List.set_cons_succ]
        refine wpAny_ready (rs := [3]) (by kernel_rfl) (by simp) ?_
        refine AllReady.cons (o := ⟨some 28, _, _, _, _, _⟩) rfl (fun K hK => ?_) AllReady.nil
        have c8' := HX.out w64 hb0
        go_simp
        refine hK _ _ ?_
        clear hK K c8'
        try simp only [Act.put, List.setIfInBounds_toArray, List.set_cons_zero, List.set_cons_succ]
        refine wpAny_ready (rs := [7]) (by kernel_rfl) (by simp) ?_
        refine AllReady.cons (o := ⟨none, _, _, _, _, _⟩) rfl (fun K hK => ?_) AllReady.nil
        refine step_storeI (HX2.out w64 hb0) keyI rfl (.tmp 28) (.tmp 29) (.tmp 31) rfl Try.underlying73 (by have := HF.out.1; simp only [maxLen]; omega) rfl n hn rfl rfl ?_
        intro w66 hI' ho'
        have HR : Kp _ := ⟨HF.out.2 w64 _ w66 hb0 HO.out.1 hI' ho'⟩
        clear hI' ho'
        refine hK _ _ ?_
        clear hK K
        try simp only [Act.put]
        refine wpAny_done (by kernel_rfl) ?_ _
        go_wp2
        go_end0
        rw [HT.out]
        exact ⟨rfl, _, _, HR.out.1, HNS.out.trans HR.out.2⟩
end
end Go.Proofs.Ytalnbomnmmefgaa
