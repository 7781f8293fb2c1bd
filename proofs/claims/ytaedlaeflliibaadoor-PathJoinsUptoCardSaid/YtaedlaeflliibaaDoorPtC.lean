/- Ranges over a function whose iterator stores into a variable of its own between two rounds: the iterator's contract, the loop's law. No program is named here. -/
import Derived.Test.YtaedlaeflliibaaDoorNdL
namespace Go.Proofs.YtaedlaeflliibaaDoor
open Go.RowKit
variable {P : Program}
/-- the iterator's contract -/
def SeqC {α : Type} (P : Program) (gf : Nat) (lb : Array Value) (encs : α → Array Value) (R : World → World → Prop) (Bs : Nat) (S Sp : List α → Prop) (N : Nat) (w : World) : Prop :=
  ∀ (l : Nat) (J Jx : List α → World → Prop) (W : World), Below w.heap.size w W → OwnFrom W.heap.size J → OwnFrom W.heap.size Jx →
    (∀ pre X v, J pre X → J pre (X.setCell ⟨Bs, 0, none⟩ v)) →
    (∀ pre x W1, J pre W1 → pre.length < N → YieldAt Fence.wide 6 P l (encs x) W1 fun e W' =>
      (e = .returned (.bool true) ∧ J (pre ++ [x]) W' ∧ R W1 W' ∧ KeepsFrom W.heap.size W1 W') ∨ (e = .returned (.bool false) ∧ Jx (pre ++ [x]) W' ∧ KeepsFrom W.heap.size W1 W')) →
    J [] W →
    CallsIn Fence.wide 7 P gf (#[.func (.yield l) #[] #[]] ++ lb) W fun e W' => (∃ v, e = .returned v) ∧ ((∃ xs, S xs ∧ J xs W') ∨ (∃ pre, Sp pre ∧ Jx pre W'))
set_option maxHeartbeats 1000000 in
theorem wp_rangeC {α : Type} {g : Operand} {ps : Array Tmp} {assign body : Code} {Q : Exit → Act → World → Prop} {a : Act} {w w0 : World} {gf : Nat} {lb : Array Value}
    (hg : a.eval g = .func (.func gf) #[] lb) (eg : ∀ args w, (callFunc gf args).run P w = .ok (.enter gf args) w)
    {encs : α → Array Value} {R : World → World → Prop} {n₀ : Nat} (hRt : ∀ X Y Z, R X Y → R Y Z → R X Z) (hRp : ∀ (l : Nat) (W : World) (o o' : Obj), W.heap[l]? = some o → o.isCells = false → n₀ ≤ l → R W (W.putObj l o')) {Bs : Nat} {S Sp : List α → Prop} {N : Nat} (hseq : SeqC P gf lb encs R Bs S Sp N w0) (hb0 : Below w0.heap.size w0 w) (hn : n₀ ≤ w.heap.size) (hBs : Bs < w.heap.size) (hps : ∀ x, (encs x).size = ps.size)
    (I : List α → World → Prop) (Ix : Code → List α → World → Prop) (hI : OwnFrom w.heap.size I) (hIx : ∀ c, OwnFrom w.heap.size (Ix c)) (hIs : ∀ pre X v, I pre X → I pre (X.setCell ⟨Bs, 0, none⟩ v)) (h0 : I [] w) (Ax : α → Act → World → Prop) (hAx : ∀ x a', OwnFrom w.heap.size (fun (_ : Unit) W => Ax x a' W))
    (hassign : ∀ (l : Nat) (pre : List α) (x : α) (W : World) (K : Act → World → Prop), I pre W → (∀ a' W', KeepsFrom w.heap.size W W' → R W W' → I pre W' → Ax x a' W' → K a' W') →
      assign.wpIn (Fence.wide.inRound l) 6 P (Exit.then K (fun _ _ _ => False)) { tmps := (ps.zip (encs x)).foldl (fun t (p, v) => t.setIfInBounds p v) a.tmps, defers := [] } W)
    (hbody : ∀ (l : Nat) (pre : List α) (x : α) (a' : Act) (W : World), w.heap.size ≤ l → I pre W → Ax x a' W → pre.length < N → body.wpIn (Fence.wide.inRound l) 6 P (ownPostG w.heap.size R I Ix (pre ++ [x]) W) a' W)
    (hdone : ∀ (D : Nat) (xs : List α) (W : World), w.heap.size ≤ D → S xs → I xs W → W.heap[D]? = some (.deferred (some [])) → Q .normal { a with defers := { target := .collected D, args := #[] } :: a.defers } W)
    (hstop : ∀ (D : Nat) (c : Code) (pre : List α) (W : World), w.heap.size ≤ D → Sp pre → Ix c pre W → W.heap[D]? = some (.deferred (some [])) → c.wpIn Fence.wide 8 P Q { a with defers := { target := .collected D, args := #[] } :: a.defers } W) :
    (Code.rangeFunc g ps assign body).wpIn Fence.wide 8 P Q a w := by
  refine wpIn_rangeFunc ?_
  intro fn hfn
  have hro : Fence.wide.round = none := rfl
  rw [hro]
  obtain ⟨rec, hrec⟩ : ∃ rec : LoopState → Option Code → Loop, rec = fun st pe => { state := st, pending := pe, fn, tmps := a.tmps, params := ps, assign, body, defers := w.heap.size } := ⟨_, rfl⟩
  obtain ⟨W1, hW1⟩ : ∃ W1, W1 = (w.alloc (.deferred (some []))).alloc (.loop (rec .ready none)) := ⟨_, rfl⟩
  have hsz : W1.heap.size = w.heap.size + 2 := by rw [hW1]; simp
  have hL : W1.heap[w.heap.size + 1]? = some (.loop (rec .ready none)) := by
    have := World.alloc_heap_new (w.alloc (.deferred (some []))) (.loop (rec .ready none))
    rw [hW1]; rwa [World.size_alloc] at this
  have hD : W1.heap[w.heap.size]? = some (.deferred (some [])) := by
    rw [hW1]; exact (Below.heap_alloc _ _ _ (by simp)).trans (World.alloc_heap_new w _)
  have hI1 : I [] W1 := by rw [hW1]; exact hI.alloc _ (hI.alloc _ h0)
  have hb1 : Below w0.heap.size w0 W1 := by
    rw [hW1]; exact hb0.trans ((((Below.refl _ w).alloc (Nat.le_refl _) _).alloc (by simp) _).mono hb0.size)
  refine ⟨w.heap.size + 1, [{ target := .collected w.heap.size, args := #[] }], W1, { target := .fn (.func gf) lb, args := #[.func (.yield (w.heap.size + 1)) #[] #[]] }, W1, gf,
    #[.func (.yield (w.heap.size + 1)) #[] #[]] ++ lb, W1, ?_, ?_, (fun _ _ => trivial), ?_, (fun h => by cases h), ?_⟩
  · rw [hW1, hrec]; exact run_enterLoop_outer _ _ _ _ _
  · simp only [resolve, hg]
    simp [go_sem]
  · simp [invoke, go_sem, eg]
  obtain ⟨lo, hlo⟩ : ∃ lo, lo = w.heap.size + 1 := ⟨_, rfl⟩
  have hJ : ∀ (K : List α → World → Prop) (p : List α → World → Prop), OwnFrom w.heap.size K → (∀ s X, p s X ↔ K s X ∧ X.heap[w.heap.size]? = some (.deferred (some []))) → OwnFrom W1.heap.size p := fun K p hK hp s X Y row hs hgr hr => by
    obtain ⟨h1, h2⟩ := (hp s X).1 hs
    exact (hp s Y).2 ⟨hK s X Y row h1 hgr fun r e => ⟨by have := (hr r e).1; omega, (hr r e).2⟩, stays_low hgr (fun r e => (hr r e).1) (by omega) h2⟩
  have own_at : ∀ (o : Obj), OwnFrom W1.heap.size (fun (_ : List α) X => X.heap[lo]? = some o) := fun o s X Y row hs hgr hr => stays_low hgr (fun r e => (hr r e).1) (by omega) hs
  rw [← hlo] at hL ⊢
  refine (hseq lo
    (fun pre W => (I pre W ∧ W.heap[w.heap.size]? = some (.deferred (some []))) ∧ W.heap[lo]? = some (.loop (rec .ready none)))
    (fun pre W => ∃ c, (Ix c pre W ∧ W.heap[w.heap.size]? = some (.deferred (some []))) ∧ W.heap[lo]? = some (.loop (rec .done (some c))))
    W1 hb1
    (fun s A B row hs hgr hr => ⟨hJ I _ hI (fun _ _ => Iff.rfl) s A B row hs.1 hgr hr, own_at _ s A B row hs.2 hgr hr⟩)
    (fun s A B row hs hgr hr => by
      obtain ⟨c, h1, h2⟩ := hs
      exact ⟨c, hJ (Ix c) _ (hIx c) (fun _ _ => Iff.rfl) s A B row h1 hgr hr, own_at _ s A B row h2 hgr hr⟩)
    (fun pre X v hs => ⟨⟨hIs pre X v hs.1.1, ((Only.setCell X ⟨Bs, 0, none⟩ v).block _ (fun e => by have e' : w.heap.size = Bs := e; omega)).trans hs.1.2⟩, ((Only.setCell X ⟨Bs, 0, none⟩ v).block _ (fun e => by have e' : lo = Bs := e; omega)).trans hs.2⟩)
    ?_ ⟨⟨hI1, hD⟩, hL⟩).mono ?_
  · rintro pre x W ⟨⟨hi, hd⟩, hl⟩ hlen
    have hy := run_yield (P := P) (args := encs x) hl (by rw [hrec]; exact hps x)
    rw [hrec] at hy
    refine ⟨fn, _, assign, body, hy, roundIn_of_wpIn hfn (hassign lo pre x W _ hi fun a' V hkf hkp hia hax => ?_)⟩
    clear hy
    replace hl := hkf.same _ _ (by omega) hl rfl
    replace hd := hkf.same _ _ (Nat.le_refl _) hd rfl
    have hlt : lo < V.heap.size := (Array.getElem?_eq_some_iff.1 hl).1
    refine ⟨_, run_beginRound hl (by rw [hrec]), ?_⟩
    have hl2 : (V.putObj lo (.loop { rec .ready none with state := .busy })).heap[lo]? = some (.loop { rec .ready none with state := .busy }) := World.putObj_heap_same hlt
    have hd2 : (V.putObj lo (.loop { rec .ready none with state := .busy })).heap[w.heap.size]? = some (.deferred (some [])) := (World.putObj_heap_other (by omega)).trans hd
    have hkk : ∀ (Z : World) (o : Obj), KeepsFrom w.heap.size (V.putObj lo (.loop { rec .ready none with state := .busy })) Z → KeepsFrom W1.heap.size W (Z.putObj lo o) := fun Z o hk => keepsFrom_trans (keepsFrom_trans (keepsFrom_trans (keepsFrom_more hkf (by omega)) (keepsFrom_put V _ (by omega))) (keepsFrom_more hk (by omega))) (keepsFrom_put Z o (by omega))
    have hk2 : R W (V.putObj lo (.loop { rec .ready none with state := .busy })) := hRt _ _ _ hkp (hRp _ _ _ _ hl rfl (by omega))
    refine wpIn_mono (hbody lo pre x a' _ (by omega) (hI.putObj _ hia (by omega) hl rfl) ((hAx x a').putObj (s := ()) _ hax (by omega) hl rfl) hlen) ?_
    have fin : ∀ (jump : Option Code) (Z : World), KeepsFrom w.heap.size (V.putObj lo (.loop { rec .ready none with state := .busy })) Z →
        (Instr.endRound lo jump).run P Z = .ok (.bool jump.isNone) (Z.putObj lo (.loop (rec (if jump.isNone then .ready else .done) jump))) ∧ Z.heap[lo]? = some (.loop { rec .ready none with state := .busy }) ∧
        (Z.putObj lo (.loop (rec (if jump.isNone then .ready else .done) jump))).heap[lo]? = some (.loop (rec (if jump.isNone then .ready else .done) jump)) ∧
        (Z.putObj lo (.loop (rec (if jump.isNone then .ready else .done) jump))).heap[w.heap.size]? = some (.deferred (some [])) := fun jump Z hk => by
      have h3 := hk.same _ _ (by omega) hl2 rfl
      have h4 := run_endRound (P := P) jump h3
      rw [hrec] at h4 h3 ⊢
      exact ⟨h4, h3, World.putObj_heap_same (Array.getElem?_eq_some_iff.1 h3).1, (World.putObj_heap_other (by omega)).trans (hk.same _ _ (Nat.le_refl _) hd2 rfl)⟩
    rintro e a3 Z hp
    cases e with
    | normal =>
      obtain ⟨hk3, hkp3, hi3⟩ := hp
      obtain ⟨hr, hl3, hl4, hd4⟩ := fin none Z hk3
      exact ⟨_, _, hr, .inl ⟨rfl, ⟨⟨hI.putObj _ hi3 (by omega) hl3 rfl, hd4⟩, hl4⟩, hRt _ _ _ (hRt _ _ _ hk2 hkp3) (hRp _ _ _ _ hl3 rfl (by omega)), hkk Z _ hk3⟩⟩
    | ret =>
      obtain ⟨hk3, hi3⟩ := hp
      obtain ⟨hr, hl3, hl4, hd4⟩ := fin (some .ret) Z hk3
      exact ⟨_, _, hr, .inr ⟨rfl, ⟨.ret, ⟨(hIx _).putObj _ hi3 (by omega) hl3 rfl, hd4⟩, hl4⟩, hkk Z _ hk3⟩⟩
    | exit id =>
      obtain ⟨hk3, hi3⟩ := hp
      obtain ⟨hr, hl3, hl4, hd4⟩ := fin (some (.exit id)) Z hk3
      exact ⟨_, _, hr, .inr ⟨rfl, ⟨.exit id, ⟨(hIx _).putObj _ hi3 (by omega) hl3 rfl, hd4⟩, hl4⟩, hkk Z _ hk3⟩⟩
    | goto t =>
      obtain ⟨hk3, hi3⟩ := hp
      obtain ⟨hr, hl3, hl4, hd4⟩ := fin (some (.goto t)) Z hk3
      exact ⟨_, _, hr, .inr ⟨rfl, ⟨.goto t, ⟨(hIx _).putObj _ hi3 (by omega) hl3 rfl, hd4⟩, hl4⟩, hkk Z _ hk3⟩⟩
    | panic ch => exact hp.elim
    | outgrown => exact hp.elim
  · rintro e W2 ⟨⟨v, rfl⟩, (⟨xs, hS, ⟨hi, hd⟩, hl⟩ | ⟨pre, hSp, c, ⟨hi, hd⟩, hl⟩)⟩
    · have hr := run_endLoop (P := P) hl (by rw [hrec]; simp)
      rw [hrec] at hr
      exact ⟨none, _, hr, hdone _ xs _ (Nat.le_refl _) hS (hI.putObj _ hi (by omega) hl rfl) ((World.putObj_heap_other (by omega)).trans hd)⟩
    · have hr := run_endLoop (P := P) hl (by rw [hrec]; simp)
      rw [hrec] at hr
      exact ⟨some c, _, hr, hstop _ c pre _ (Nat.le_refl _) hSp ((hIx c).putObj _ hi (by omega) hl rfl) ((World.putObj_heap_other (by omega)).trans hd)⟩

end Go.Proofs.YtaedlaeflliibaaDoor
