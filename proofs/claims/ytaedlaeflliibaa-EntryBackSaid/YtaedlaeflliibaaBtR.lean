/- Ranges over a function that itself ranges over one: the iterator's contract where what lies between two rounds abides whatever is no cells and is laid later; the loop's law over it; a drawn region whose tail is forced, walked within a fence. No program is named here. -/
import Derived.Test.YtaedlaeflliibaaRnd
import Derived.StillTailTactics
import Derived.StillTail
import Derived.OrdersIn
namespace Go.Proofs.Ytaedlaeflliibaa
open Go.RowKit

/-- all below n₀ stays, and all variables of some types -/
structure KpG (n₀ : Nat) (G : List TypeId) (X Y : World) : Prop where
  below : Below n₀ X Y
  same : ∀ (k : Nat) (cs : Array Value) (t : TypeId) (fr : Nat × Nat), X.heap[k]? = some (Obj.cells cs t fr) → t ∈ G → Y.heap[k]? = some (Obj.cells cs t fr)
section
variable {n₀ : Nat} {G : List TypeId} {X Y Z : World}
theorem KpG.refl (X : World) : KpG n₀ G X X := ⟨Below.refl _ _, fun _ _ _ _ h _ => h⟩
theorem KpG.trans (h : KpG n₀ G X Y) (k : KpG n₀ G Y Z) : KpG n₀ G X Z := ⟨h.below.trans k.below, fun b cs t fr hb hg => k.same b cs t fr (h.same b cs t fr hb hg) hg⟩
theorem KpG.of_below (h : Below X.heap.size X Y) (hn : n₀ ≤ X.heap.size) : KpG n₀ G X Y := ⟨h.mono hn, fun b _ _ _ hb _ => (h.block b (Array.getElem?_eq_some_iff.1 hb).1).trans hb⟩
theorem KpG.put {l : Nat} {W : World} {o : Obj} (o' : Obj) (h : W.heap[l]? = some o) (ho : o.isCells = false) (hn : n₀ ≤ l) : KpG n₀ G W (W.putObj l o') :=
  ⟨⟨rfl, rfl, rfl, by simp, fun k hk => World.putObj_heap_other (by omega)⟩, fun b cs t fr hb _ => (World.putObj_heap_other (fun e => by subst e; rw [h] at hb; cases hb; cases ho)).trans hb⟩
theorem KpG.less {G' : List TypeId} (h : KpG n₀ G X Y) (hG : ∀ t ∈ G', t ∈ G) : KpG n₀ G' X Y := ⟨h.below, fun b cs t fr hb hg => h.same b cs t fr hb (hG t hg)⟩
theorem KpG.low {n₁ : Nat} (h : KpG n₀ G X Y) (hn : n₁ ≤ n₀) : KpG n₁ G X Y := ⟨h.below.mono hn, h.same⟩
theorem KpG.blk {g : Nat} {t : TypeId} {cs : List Value} (h : KpG n₀ G X Y) (hb : Blk X g t cs) (hg : t ∈ G) : Blk Y g t cs := ⟨h.same _ _ _ _ hb.heap hg⟩
theorem KpG.set {g : Nat} {t : TypeId} {cs : List Value} (hb : Blk X g t cs) (ht : t ∉ G) (hn : n₀ ≤ g) (i : Nat) (v : Value) : KpG n₀ G X (X.setCell ⟨g, i, none⟩ v) :=
  ⟨(Only.setCell X ⟨g, i, none⟩ v).below hn, fun b cs' t' fr h hg => (Only.block (Only.setCell X ⟨g, i, none⟩ v) b (fun e => by
    have e' : b = g := e
    subst e'
    rw [hb.heap] at h
    cases h
    exact ht hg)).trans h⟩
end
variable {P : Program}
/-- the iterator's contract -/
def SeqO {α : Type} (P : Program) (gf : Nat) (lb : Array Value) (encs : α → Array Value) (n₀ : Nat) (G : List TypeId) (S Sp : List α → Prop) (N : Nat) (w : World) : Prop :=
  ∀ (l : Nat) (J Jx : List α → World → Prop) (W : World), Below w.heap.size w W → OwnFrom W.heap.size J → OwnFrom W.heap.size Jx →
    (∀ pre x W1, J pre W1 → pre.length < N → YieldAt Fence.wide 6 P l (encs x) W1 fun e W' =>
      (e = .returned (.bool true) ∧ J (pre ++ [x]) W' ∧ KpG n₀ G W1 W' ∧ KeepsFrom W.heap.size W1 W') ∨ (e = .returned (.bool false) ∧ Jx (pre ++ [x]) W' ∧ KeepsFrom W.heap.size W1 W')) →
    J [] W →
    CallsIn Fence.wide 7 P gf (#[.func (.yield l) #[] #[]] ++ lb) W fun e W' => (∃ v, e = .returned v) ∧ ((∃ xs, S xs ∧ J xs W') ∨ (∃ pre, Sp pre ∧ Jx pre W'))
theorem keepsFrom_put {B l : Nat} (X : World) (o : Obj) (h : l < B) : KeepsFrom B X (X.putObj l o) := ⟨by simp, fun k _ hk hx _ => (World.putObj_heap_other (by omega)).trans hx⟩
theorem keepsFrom_trans {B : Nat} {X Y Z : World} (h : KeepsFrom B X Y) (k : KeepsFrom B Y Z) : KeepsFrom B X Z := ⟨Nat.le_trans h.size k.size, fun i o hi hx ho => k.same i o hi (h.same i o hi hx ho) ho⟩
theorem keepsFrom_more {B B' : Nat} {X Y : World} (h : KeepsFrom B X Y) (hB : B ≤ B') : KeepsFrom B' X Y := ⟨h.size, fun i o hi hx ho => h.same i o (Nat.le_trans hB hi) hx ho⟩
theorem keepsFrom_below {B : Nat} {X Y : World} (h : Below X.heap.size X Y) : KeepsFrom B X Y := ⟨h.size, fun i _ _ hx _ => (h.block i (Array.getElem?_eq_some_iff.1 hx).1).trans hx⟩
theorem ownFrom_more {β : Type} {B B' : Nat} {I : β → World → Prop} (h : OwnFrom B I) (hB : B ≤ B') : OwnFrom B' I := fun s W W' row hs hg hr => h s W W' row hs hg fun r e => ⟨Nat.le_trans hB (hr r e).1, (hr r e).2⟩
theorem stays_low {X Y : World} {row : Option Nat} {B k : Nat} {o : Obj} (hg : X.grownBy Y row) (hr : ∀ r, row = some r → B ≤ r) (hk : k < B) (h : X.heap[k]? = some o) : Y.heap[k]? = some o :=
  (hg.block k (Array.getElem?_eq_some_iff.1 h).1 (fun e => by have := hr k e.symm; omega)).trans h
/-- yield, wherever a round stands -/
theorem yield_round {n m r l : Nat} {args : Array Value} {W : World} {R : Ending → World → Prop} (h : YieldAt Fence.wide n P l args W R) : YieldAt (Fence.wide.inRound r) m P l args W R := by
  obtain ⟨fn, tmps, assign, body, h1, h2, h3⟩ := h
  exact ⟨fn, tmps, assign, body, h1, h2, fun c cs _ => h3 c cs (room_wide _)⟩
set_option maxHeartbeats 1000000 in
theorem wp_rangeO {α : Type} {g : Operand} {ps : Array Tmp} {assign body : Code} {Q : Exit → Act → World → Prop} {a : Act} {w w0 : World} {gf : Nat} {lb : Array Value}
    (hg : a.eval g = .func (.func gf) #[] lb) (eg : ∀ args w, (callFunc gf args).run P w = .ok (.enter gf args) w)
    {encs : α → Array Value} {n₀ : Nat} {G : List TypeId} {S Sp : List α → Prop} {N : Nat} (hseq : SeqO P gf lb encs n₀ G S Sp N w0) (hb0 : Below w0.heap.size w0 w) (hn : n₀ ≤ w.heap.size) (hps : ∀ x, (encs x).size = ps.size)
    (I : List α → World → Prop) (Ix : Code → List α → World → Prop) (hI : OwnFrom w.heap.size I) (hIx : ∀ c, OwnFrom w.heap.size (Ix c)) (h0 : I [] w) (Ax : α → Act → World → Prop) (hAx : ∀ x a', OwnFrom w.heap.size (fun (_ : Unit) W => Ax x a' W))
    (hassign : ∀ (l : Nat) (pre : List α) (x : α) (W : World) (K : Act → World → Prop), I pre W → (∀ a' W', KeepsFrom w.heap.size W W' → KpG n₀ G W W' → I pre W' → Ax x a' W' → K a' W') →
      assign.wpIn (Fence.wide.inRound l) 6 P (Exit.then K (fun _ _ _ => False)) { tmps := (ps.zip (encs x)).foldl (fun t (p, v) => t.setIfInBounds p v) a.tmps, defers := [] } W)
    (hbody : ∀ (l : Nat) (pre : List α) (x : α) (a' : Act) (W : World), w.heap.size ≤ l → I pre W → Ax x a' W → pre.length < N → body.wpIn (Fence.wide.inRound l) 6 P (ownPostG w.heap.size (KpG n₀ G) I Ix (pre ++ [x]) W) a' W)
    (hdone : ∀ (D : Nat) (xs : List α) (W : World), w.heap.size ≤ D → S xs → I xs W → W.heap[D]? = some (.deferred (some [])) → Q .normal { a with defers := { target := .collected D, args := #[] } :: a.defers } W)
    (hstop : ∀ (D : Nat) (c : Code) (pre : List α) (W : World), w.heap.size ≤ D → Sp pre → Ix c pre W → W.heap[D]? = some (.deferred (some [])) → c.wpIn Fence.wide 8 P Q { a with defers := { target := .collected D, args := #[] } :: a.defers } W) :
    (Code.rangeFunc g ps assign body).wpIn Fence.wide 8 P Q a w := by
  refine wpIn_rangeFunc ?_
  intro fn hfn
  have hro : Fence.wide.round = none := rfl
  rw [hro]
  obtain ⟨rec, hrec⟩ : ∃ rec : LoopState → Option Code → Loop, rec = fun st pe => { state := st, pending := pe, fn, tmps := a.tmps, params := ps, assign, body, defers := w.heap.size } := ⟨_, rfl⟩
  obtain ⟨W1, hW1⟩ : ∃ W1, W1 = (w.alloc (.deferred (some []))).alloc (.loop (rec .ready none)) := ⟨_, rfl⟩
  have hsz : W1.heap.size = w.heap.size + 2 := by rw [hW1]; simp
  have hL : W1.heap[w.heap.size + 1]? = some (.loop (rec .ready none)) := by
    have := World.alloc_heap_new (w.alloc (.deferred (some []))) (.loop (rec .ready none))
    rw [hW1]; rwa [World.size_alloc] at this
  have hD : W1.heap[w.heap.size]? = some (.deferred (some [])) := by
    rw [hW1]; exact (Below.heap_alloc _ _ _ (by simp)).trans (World.alloc_heap_new w _)
  have hI1 : I [] W1 := by rw [hW1]; exact hI.alloc _ (hI.alloc _ h0)
  have hb1 : Below w0.heap.size w0 W1 := by
    rw [hW1]; exact hb0.trans ((((Below.refl _ w).alloc (Nat.le_refl _) _).alloc (by simp) _).mono hb0.size)
  refine ⟨w.heap.size + 1, [{ target := .collected w.heap.size, args := #[] }], W1, { target := .fn (.func gf) lb, args := #[.func (.yield (w.heap.size + 1)) #[] #[]] }, W1, gf,
    #[.func (.yield (w.heap.size + 1)) #[] #[]] ++ lb, W1, ?_, ?_, (fun _ _ => trivial), ?_, (fun h => by cases h), ?_⟩
  · rw [hW1, hrec]; exact run_enterLoop_outer _ _ _ _ _
  · simp only [resolve, hg]
    simp [go_sem]
  · simp [invoke, go_sem, eg]
  obtain ⟨lo, hlo⟩ : ∃ lo, lo = w.heap.size + 1 := ⟨_, rfl⟩
  have hJ : ∀ (K : List α → World → Prop) (p : List α → World → Prop), OwnFrom w.heap.size K → (∀ s X, p s X ↔ K s X ∧ X.heap[w.heap.size]? = some (.deferred (some []))) → OwnFrom W1.heap.size p := fun K p hK hp s X Y row hs hgr hr => by
    obtain ⟨h1, h2⟩ := (hp s X).1 hs
    exact (hp s Y).2 ⟨hK s X Y row h1 hgr fun r e => ⟨by have := (hr r e).1; omega, (hr r e).2⟩, stays_low hgr (fun r e => (hr r e).1) (by omega) h2⟩
  have own_at : ∀ (o : Obj), OwnFrom W1.heap.size (fun (_ : List α) X => X.heap[lo]? = some o) := fun o s X Y row hs hgr hr => stays_low hgr (fun r e => (hr r e).1) (by omega) hs
  rw [← hlo] at hL ⊢
  refine (hseq lo
    (fun pre W => (I pre W ∧ W.heap[w.heap.size]? = some (.deferred (some []))) ∧ W.heap[lo]? = some (.loop (rec .ready none)))
    (fun pre W => ∃ c, (Ix c pre W ∧ W.heap[w.heap.size]? = some (.deferred (some []))) ∧ W.heap[lo]? = some (.loop (rec .done (some c))))
    W1 hb1
    (fun s A B row hs hgr hr => ⟨hJ I _ hI (fun _ _ => Iff.rfl) s A B row hs.1 hgr hr, own_at _ s A B row hs.2 hgr hr⟩)
    (fun s A B row hs hgr hr => by
      obtain ⟨c, h1, h2⟩ := hs
      exact ⟨c, hJ (Ix c) _ (hIx c) (fun _ _ => Iff.rfl) s A B row h1 hgr hr, own_at _ s A B row h2 hgr hr⟩)
    ?_ ⟨⟨hI1, hD⟩, hL⟩).mono ?_
  · rintro pre x W ⟨⟨hi, hd⟩, hl⟩ hlen
    have hy := run_yield (P := P) (args := encs x) hl (by rw [hrec]; exact hps x)
    rw [hrec] at hy
    refine ⟨fn, _, assign, body, hy, roundIn_of_wpIn hfn (hassign lo pre x W _ hi fun a' V hkf hkp hia hax => ?_)⟩
    clear hy
    replace hl := hkf.same _ _ (by omega) hl rfl
    replace hd := hkf.same _ _ (Nat.le_refl _) hd rfl
    have hlt : lo < V.heap.size := (Array.getElem?_eq_some_iff.1 hl).1
    refine ⟨_, run_beginRound hl (by rw [hrec]), ?_⟩
    have hl2 : (V.putObj lo (.loop { rec .ready none with state := .busy })).heap[lo]? = some (.loop { rec .ready none with state := .busy }) := World.putObj_heap_same hlt
    have hd2 : (V.putObj lo (.loop { rec .ready none with state := .busy })).heap[w.heap.size]? = some (.deferred (some [])) := (World.putObj_heap_other (by omega)).trans hd
    have hkk : ∀ (Z : World) (o : Obj), KeepsFrom w.heap.size (V.putObj lo (.loop { rec .ready none with state := .busy })) Z → KeepsFrom W1.heap.size W (Z.putObj lo o) := fun Z o hk => keepsFrom_trans (keepsFrom_trans (keepsFrom_trans (keepsFrom_more hkf (by omega)) (keepsFrom_put V _ (by omega))) (keepsFrom_more hk (by omega))) (keepsFrom_put Z o (by omega))
    have hk2 : KpG n₀ G W (V.putObj lo (.loop { rec .ready none with state := .busy })) := hkp.trans (KpG.put _ hl rfl (by omega))
    refine wpIn_mono (hbody lo pre x a' _ (by omega) (hI.putObj _ hia (by omega) hl rfl) ((hAx x a').putObj (s := ()) _ hax (by omega) hl rfl) hlen) ?_
    have fin : ∀ (jump : Option Code) (Z : World), KeepsFrom w.heap.size (V.putObj lo (.loop { rec .ready none with state := .busy })) Z →
        (Instr.endRound lo jump).run P Z = .ok (.bool jump.isNone) (Z.putObj lo (.loop (rec (if jump.isNone then .ready else .done) jump))) ∧ Z.heap[lo]? = some (.loop { rec .ready none with state := .busy }) ∧
        (Z.putObj lo (.loop (rec (if jump.isNone then .ready else .done) jump))).heap[lo]? = some (.loop (rec (if jump.isNone then .ready else .done) jump)) ∧
        (Z.putObj lo (.loop (rec (if jump.isNone then .ready else .done) jump))).heap[w.heap.size]? = some (.deferred (some [])) := fun jump Z hk => by
      have h3 := hk.same _ _ (by omega) hl2 rfl
      have h4 := run_endRound (P := P) jump h3
      rw [hrec] at h4 h3 ⊢
      exact ⟨h4, h3, World.putObj_heap_same (Array.getElem?_eq_some_iff.1 h3).1, (World.putObj_heap_other (by omega)).trans (hk.same _ _ (Nat.le_refl _) hd2 rfl)⟩
    rintro e a3 Z hp
    cases e with
    | normal =>
      obtain ⟨hk3, hkp3, hi3⟩ := hp
      obtain ⟨hr, hl3, hl4, hd4⟩ := fin none Z hk3
      exact ⟨_, _, hr, .inl ⟨rfl, ⟨⟨hI.putObj _ hi3 (by omega) hl3 rfl, hd4⟩, hl4⟩, (hk2.trans hkp3).trans (KpG.put _ hl3 rfl (by omega)), hkk Z _ hk3⟩⟩
    | ret =>
      obtain ⟨hk3, hi3⟩ := hp
      obtain ⟨hr, hl3, hl4, hd4⟩ := fin (some .ret) Z hk3
      exact ⟨_, _, hr, .inr ⟨rfl, ⟨.ret, ⟨(hIx _).putObj _ hi3 (by omega) hl3 rfl, hd4⟩, hl4⟩, hkk Z _ hk3⟩⟩
    | exit id =>
      obtain ⟨hk3, hi3⟩ := hp
      obtain ⟨hr, hl3, hl4, hd4⟩ := fin (some (.exit id)) Z hk3
      exact ⟨_, _, hr, .inr ⟨rfl, ⟨.exit id, ⟨(hIx _).putObj _ hi3 (by omega) hl3 rfl, hd4⟩, hl4⟩, hkk Z _ hk3⟩⟩
    | goto t =>
      obtain ⟨hk3, hi3⟩ := hp
      obtain ⟨hr, hl3, hl4, hd4⟩ := fin (some (.goto t)) Z hk3
      exact ⟨_, _, hr, .inr ⟨rfl, ⟨.goto t, ⟨(hIx _).putObj _ hi3 (by omega) hl3 rfl, hd4⟩, hl4⟩, hkk Z _ hk3⟩⟩
    | panic ch => exact hp.elim
    | outgrown => exact hp.elim
  · rintro e W2 ⟨⟨v, rfl⟩, (⟨xs, hS, ⟨hi, hd⟩, hl⟩ | ⟨pre, hSp, c, ⟨hi, hd⟩, hl⟩)⟩
    · have hr := run_endLoop (P := P) hl (by rw [hrec]; simp)
      rw [hrec] at hr
      exact ⟨none, _, hr, hdone _ xs _ (Nat.le_refl _) hS (hI.putObj _ hi (by omega) hl rfl) ((World.putObj_heap_other (by omega)).trans hd)⟩
    · have hr := run_endLoop (P := P) hl (by rw [hrec]; simp)
      rw [hrec] at hr
      exact ⟨some c, _, hr, hstop _ c pre _ (Nat.le_refl _) hSp ((hIx c).putObj _ hi (by omega) hl rfl) ((World.putObj_heap_other (by omega)).trans hd)⟩

/- a drawn region with a forced tail, within a fence -/
section
variable {F : Fence} {n : Nat} {ops : Array Oper} {md : Region.Mode} {w : World}
/-- what an operation does that is walked anywhere, the fence lets by -/
def LetsOp (F : Fence) (n : Nat) (P : Program) (o : Oper) : Prop := (∀ (a : Act) (w : World) (K : Act → World → Prop) (Q : Exit → Act → World → Prop), Oper.wp P o a w K Q → o.wpIn F n P a w K Q) ∧ ∀ f, F.fn f
theorem wpOpIn_of_stOp {i : Nat} {a : Act} {K : Act → Prop} {K' : Act → World → Prop} {Q' : Exit → Act → World → Prop} (hF : ∀ o, ops[i]? = some o → LetsOp F n P o) (h : ∀ a, K a → K' a w) (hh : stOp P ops w i K a) : wpOpIn F n P ops Q' i K' a w := by
  unfold stOp at hh
  unfold wpOpIn
  split
  · rename_i ho; simp only [ho] at hh; exact h _ hh
  · rename_i o ho
    simp only [ho] at hh
    split
    · rename_i hw; simp only [hw, if_true] at hh; exact (hF o ho).1 _ _ _ _ (Oper.wp_of_still h hh)
    · rename_i hw; simp only [hw] at hh; exact ⟨fun f _ => (hF o ho).2 f, h _ hh⟩
theorem wpAnyIn_of_head {k g : Nat} {L : Array Bool → Act → Prop} {Q' : Exit → Act → World → Prop} (hF : ∀ (i : Nat) o, i < k → ops[i]? = some o → LetsOp F n P o) (hL : ∀ listed a, L listed a → wpAnyIn F n P md ops Q' g listed a w) :
    ∀ (f : Nat) (listed : Array Bool) (a : Act), wpAnyL P md ops w k L f listed a → wpAnyIn F n P md ops Q' (f + g) listed a w
  | 0, listed, a, h => by rw [Nat.zero_add]; exact hL _ _ h
  | f + 1, listed, a, h => by
    rw [show f + 1 + g = (f + g) + 1 by omega]
    exact ⟨fun h0 => absurd h0 h.1, fun i hi => wpOpIn_of_stOp (hF i · (h.2 i hi).1) (fun a' h' => wpAnyIn_of_head hF hL f _ a' h') (h.2 i hi).2⟩
theorem wpAnyIn_of_seq {Q' : Exit → Act → World → Prop} : ∀ (l : List Oper) (k : Nat) (listed : Array Bool) (a : Act) (w : World), (∀ j, l[j]? = ops[k + j]?) →
    Region.seqB md ops l.length k listed = true → wpListIn F n P ops Q' l a w → wpAnyIn F n P md ops Q' l.length listed a w
  | [], _, _, _, _, _, hB, h => ⟨by simpa [Region.seqB] using hB, h⟩
  | o :: l, k, listed, a, w, hl, hB, h => by
    have h0 : ops[k]? = some o := by simpa using (hl 0).symm
    simp only [List.length_cons, Region.seqB, Bool.and_eq_true, decide_eq_true_eq] at hB
    refine ⟨fun h1 => (by rw [hB.1] at h1; cases h1), fun i hi => ?_⟩
    rw [hB.1] at hi
    have hik : i = k := by simpa using hi
    subst hik
    have hw : wpOpIn F n P ops Q' i (wpListIn F n P ops Q' l) a w := by
      unfold wpOpIn; simp only [h0]
      exact h
    exact wpOpIn_mono (fun a' w' h' => wpAnyIn_of_seq l (i + 1) _ a' w' (fun j => by have := hl (j + 1); simpa [Nat.add_assoc, Nat.add_comm 1 j] using this) hB.2 h') hw
theorem wpIn_region_tail {id : Nat} {Q : Exit → Act → World → Prop} {a : Act} {w : World} {l : List Oper} (k : Nat) (hm : P.follows .mixedOrders = true) (hB : Region.lexTailB .any l.toArray k = true) (hF : ∀ o ∈ l.take k, LetsOp F n P o)
    (h : wpStill P l.toArray w.drew (fun a' => wpListIn F n P l.toArray Q (l.drop k) a' w.drew) (l.take k) a) : (Code.region id l.toArray true).wpIn F n P Q a w := by
  simp only [Region.lexTailB, Bool.and_eq_true, decide_eq_true_eq] at hB
  obtain ⟨⟨⟨⟨hsel, hn⟩, hs⟩, hc⟩, hlex⟩ := hB
  have hn' : k < l.length := by simpa using hn
  have htl : (l.take k).length = k := by simp; omega
  have hdl : (l.drop k).length = l.toArray.size - k := by simp
  have inv0 : HeadInv .any l.toArray k (Array.replicate l.toArray.size false) :=
    ⟨by simp, fun j oj _ hl => (by rw [getD_replicate_false] at hl; cases hl), fun t _ ht => getD_in (by simpa using ht) (getD_replicate_false _ _)⟩
  have H := wpAnyL_lex (md := .any) (g := l.toArray.size - k) hsel hs hc hn (l.take k) 0 _ a (fun j hj => by
    have hj' : j < k := by rw [htl] at hj; exact hj
    simp [hj']) (by simpa using htl) inv0 (by rw [htl]; exact hlex) h
  refine wpIn_region_any hm ?_
  have := wpAnyIn_of_head (F := F) (n := n) (Q' := Q) (g := l.toArray.size - k) (fun i o hi ho => hF o (by
    rw [List.mem_iff_getElem?]
    exact ⟨i, by rw [List.getElem?_take, if_pos hi]; simpa using ho⟩)) (fun listed a' hL => by
    have := wpAnyIn_of_seq (F := F) (n := n) (md := .any) (Q' := Q) (l.drop k) k listed a' w.drew (fun j => by simp [List.getElem?_drop]) (by rw [hdl]; exact hL.1) hL.2
    rwa [hdl] at this) _ _ _ H
  rw [htl, show k + (l.toArray.size - k) = l.toArray.size by omega] at this
  exact this
theorem letsOp_round (r : Nat) {o : Oper} (hd : ∀ c, o.op ≠ .defer c) : LetsOp (Fence.wide.inRound r) n P o := ⟨fun _ _ _ _ h => op_inRound r hd h, fun _ => trivial⟩
theorem letsOps_round (r : Nat) {l : List Oper} (h : (l.all fun o => match o.op with | .defer _ => false | _ => true) = true) : ∀ o ∈ l, LetsOp (Fence.wide.inRound r) n P o := fun o ho => letsOp_round r fun c e => by
  have := List.all_eq_true.1 h o ho
  rw [e] at this
  cases this
theorem letsOp_wide {o : Oper} : LetsOp Fence.wide n P o := ⟨fun a w K Q h => by
  refine ⟨fun f _ => trivial, ?_⟩
  rw [show Fence.wide.round = none from rfl, Oper.semAt_none]
  unfold Oper.wp at h
  generalize (execOp a.eval o).run P w = res at h ⊢
  cases res with
  | ok v w' =>
    cases v with
    | value v => exact h
    | skip => exact h
    | defer d => exact h
    | enter f args => exact ⟨fun h => (by cases h), callsIn_wide.2 h⟩
    | row s args =>
      exact ⟨fun h => (by cases h), fun c cs _ => by
        obtain ⟨v, w2, hr, hs⟩ := h c cs
        exact ⟨v, w2, hr, stepsIn_wide.2 hs⟩⟩
    | _ => exact h.elim
  | halt e w' =>
    cases e with
    | panic v => exact h
    | _ => exact h.elim, fun _ => trivial⟩
end
end Go.Proofs.Ytaedlaeflliibaa
