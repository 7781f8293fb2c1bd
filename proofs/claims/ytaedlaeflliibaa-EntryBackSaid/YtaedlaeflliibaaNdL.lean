/- Ranges over a function, whatever the rounds keep: the iterator's contract, the loop's law; what keeps some blocks by their numbers. No program is named here. -/
import Derived.Test.YtaedlaeflliibaaBtR
import Derived.Test.YtaedlaeflliibaaBuild
namespace Go.Proofs.Ytaedlaeflliibaa
open Go.RowKit

/-- all below n₀ stays, and some variables by their numbers -/
structure KpB (n₀ : Nat) (L : List Nat) (X Y : World) : Prop where
  below : Below n₀ X Y
  same : ∀ b ∈ L, ∀ o : Obj, X.heap[b]? = some o → o.isCells = true → Y.heap[b]? = some o
section
variable {n₀ : Nat} {L : List Nat} {X Y Z : World}
theorem KpB.refl (X : World) : KpB n₀ L X X := ⟨Below.refl _ _, fun _ _ _ h _ => h⟩
theorem KpB.trans (h : KpB n₀ L X Y) (k : KpB n₀ L Y Z) : KpB n₀ L X Z := ⟨h.below.trans k.below, fun b hb o ho hc => k.same b hb o (h.same b hb o ho hc) hc⟩
theorem KpB.of_below (h : Below X.heap.size X Y) (hn : n₀ ≤ X.heap.size) : KpB n₀ L X Y := ⟨h.mono hn, fun b _ _ ho _ => (h.block b (Array.getElem?_eq_some_iff.1 ho).1).trans ho⟩
theorem KpB.put {l : Nat} {W : World} {o : Obj} (o' : Obj) (h : W.heap[l]? = some o) (ho : o.isCells = false) (hn : n₀ ≤ l) : KpB n₀ L W (W.putObj l o') :=
  ⟨⟨rfl, rfl, rfl, by simp, fun k hk => World.putObj_heap_other (by omega)⟩, fun b _ o2 hb hc => (World.putObj_heap_other (fun e => by subst e; rw [h] at hb; cases hb; rw [ho] at hc; cases hc)).trans hb⟩
theorem KpB.blk {g : Nat} {t : TypeId} {cs : List Value} (h : KpB n₀ L X Y) (hb : Blk X g t cs) (hg : g ∈ L) : Blk Y g t cs := ⟨h.same _ hg _ hb.heap rfl⟩
theorem KpB.set {g : Nat} (hg : g ∉ L) (hn : n₀ ≤ g) (i : Nat) (v : Value) : KpB n₀ L X (X.setCell ⟨g, i, none⟩ v) :=
  ⟨(Only.setCell X ⟨g, i, none⟩ v).below hn, fun b hb o ho _ => ((Only.setCell X ⟨g, i, none⟩ v).block b (fun e => hg (by have e' : b = g := e; rw [← e']; exact hb))).trans ho⟩
/-- a row of the call's own has grown -/
theorem KpB.row {row : Option Nat} (hg : X.grownBy Y row) (hr : ∀ r, row = some r → n₀ ≤ r ∧ r ∉ L) (hn : n₀ ≤ X.heap.size) : KpB n₀ L X Y :=
  ⟨⟨hg.os, hg.tape, hg.output, hg.size, fun k hk => hg.block k (by omega) (fun e => by have := (hr k e.symm).1; omega)⟩,
    fun b hb o ho _ => (hg.block b (Array.getElem?_eq_some_iff.1 ho).1 (fun e => (hr b e.symm).2 hb)).trans ho⟩
end
variable {P : Program}
/-- the iterator's contract -/
def SeqR {α : Type} (P : Program) (gf : Nat) (lb : Array Value) (encs : α → Array Value) (R : World → World → Prop) (S Sp : List α → Prop) (N : Nat) (w : World) : Prop :=
  ∀ (l : Nat) (J Jx : List α → World → Prop) (W : World), Below w.heap.size w W → OwnFrom W.heap.size J → OwnFrom W.heap.size Jx →
    (∀ pre x W1, J pre W1 → pre.length < N → YieldAt Fence.wide 6 P l (encs x) W1 fun e W' =>
      (e = .returned (.bool true) ∧ J (pre ++ [x]) W' ∧ R W1 W' ∧ KeepsFrom W.heap.size W1 W') ∨ (e = .returned (.bool false) ∧ Jx (pre ++ [x]) W' ∧ KeepsFrom W.heap.size W1 W')) →
    J [] W →
    CallsIn Fence.wide 7 P gf (#[.func (.yield l) #[] #[]] ++ lb) W fun e W' => (∃ v, e = .returned v) ∧ ((∃ xs, S xs ∧ J xs W') ∨ (∃ pre, Sp pre ∧ Jx pre W'))
set_option maxHeartbeats 1000000 in
theorem wp_rangeR {α : Type} {g : Operand} {ps : Array Tmp} {assign body : Code} {Q : Exit → Act → World → Prop} {a : Act} {w w0 : World} {gf : Nat} {lb : Array Value}
    (hg : a.eval g = .func (.func gf) #[] lb) (eg : ∀ args w, (callFunc gf args).run P w = .ok (.enter gf args) w)
    {encs : α → Array Value} {R : World → World → Prop} {n₀ : Nat} (hRt : ∀ X Y Z, R X Y → R Y Z → R X Z) (hRp : ∀ (l : Nat) (W : World) (o o' : Obj), W.heap[l]? = some o → o.isCells = false → n₀ ≤ l → R W (W.putObj l o')) {S Sp : List α → Prop} {N : Nat} (hseq : SeqR P gf lb encs R S Sp N w0) (hb0 : Below w0.heap.size w0 w) (hn : n₀ ≤ w.heap.size) (hps : ∀ x, (encs x).size = ps.size)
    (I : List α → World → Prop) (Ix : Code → List α → World → Prop) (hI : OwnFrom w.heap.size I) (hIx : ∀ c, OwnFrom w.heap.size (Ix c)) (h0 : I [] w) (Ax : α → Act → World → Prop) (hAx : ∀ x a', OwnFrom w.heap.size (fun (_ : Unit) W => Ax x a' W))
    (hassign : ∀ (l : Nat) (pre : List α) (x : α) (W : World) (K : Act → World → Prop), I pre W → (∀ a' W', KeepsFrom w.heap.size W W' → R W W' → I pre W' → Ax x a' W' → K a' W') →
      assign.wpIn (Fence.wide.inRound l) 6 P (Exit.then K (fun _ _ _ => False)) { tmps := (ps.zip (encs x)).foldl (fun t (p, v) => t.setIfInBounds p v) a.tmps, defers := [] } W)
    (hbody : ∀ (l : Nat) (pre : List α) (x : α) (a' : Act) (W : World), w.heap.size ≤ l → I pre W → Ax x a' W → pre.length < N → body.wpIn (Fence.wide.inRound l) 6 P (ownPostG w.heap.size R I Ix (pre ++ [x]) W) a' W)
    (hdone : ∀ (D : Nat) (xs : List α) (W : World), w.heap.size ≤ D → S xs → I xs W → W.heap[D]? = some (.deferred (some [])) → Q .normal { a with defers := { target := .collected D, args := #[] } :: a.defers } W)
    (hstop : ∀ (D : Nat) (c : Code) (pre : List α) (W : World), w.heap.size ≤ D → Sp pre → Ix c pre W → W.heap[D]? = some (.deferred (some [])) → c.wpIn Fence.wide 8 P Q { a with defers := { target := .collected D, args := #[] } :: a.defers } W) :
    (Code.rangeFunc g ps assign body).wpIn Fence.wide 8 P Q a w := by
  refine wpIn_rangeFunc ?_
  intro fn hfn
  have hro : Fence.wide.round = none := rfl
  rw [hro]
  obtain ⟨rec, hrec⟩ : ∃ rec : LoopState → Option Code → Loop, rec = fun st pe => { state := st, pending := pe, fn, tmps := a.tmps, params := ps, assign, body, defers := w.heap.size } := ⟨_, rfl⟩
  obtain ⟨W1, hW1⟩ : ∃ W1, W1 = (w.alloc (.deferred (some []))).alloc (.loop (rec .ready none)) := ⟨_, rfl⟩
  have hsz : W1.heap.size = w.heap.size + 2 := by rw [hW1]; simp
  have hL : W1.heap[w.heap.size + 1]? = some (.loop (rec .ready none)) := by
    have := World.alloc_heap_new (w.alloc (.deferred (some []))) (.loop (rec .ready none))
    rw [hW1]; rwa [World.size_alloc] at this
  have hD : W1.heap[w.heap.size]? = some (.deferred (some [])) := by
    rw [hW1]; exact (Below.heap_alloc _ _ _ (by simp)).trans (World.alloc_heap_new w _)
  have hI1 : I [] W1 := by rw [hW1]; exact hI.alloc _ (hI.alloc _ h0)
  have hb1 : Below w0.heap.size w0 W1 := by
    rw [hW1]; exact hb0.trans ((((Below.refl _ w).alloc (Nat.le_refl _) _).alloc (by simp) _).mono hb0.size)
  refine ⟨w.heap.size + 1, [{ target := .collected w.heap.size, args := #[] }], W1, { target := .fn (.func gf) lb, args := #[.func (.yield (w.heap.size + 1)) #[] #[]] }, W1, gf,
    #[.func (.yield (w.heap.size + 1)) #[] #[]] ++ lb, W1, ?_, ?_, (fun _ _ => trivial), ?_, (fun h => by cases h), ?_⟩
  · rw [hW1, hrec]; exact run_enterLoop_outer _ _ _ _ _
  · simp only [resolve, hg]
    simp [go_sem]
  · simp [invoke, go_sem, eg]
  obtain ⟨lo, hlo⟩ : ∃ lo, lo = w.heap.size + 1 := ⟨_, rfl⟩
  have hJ : ∀ (K : List α → World → Prop) (p : List α → World → Prop), OwnFrom w.heap.size K → (∀ s X, p s X ↔ K s X ∧ X.heap[w.heap.size]? = some (.deferred (some []))) → OwnFrom W1.heap.size p := fun K p hK hp s X Y row hs hgr hr => by
    obtain ⟨h1, h2⟩ := (hp s X).1 hs
    exact (hp s Y).2 ⟨hK s X Y row h1 hgr fun r e => ⟨by have := (hr r e).1; omega, (hr r e).2⟩, stays_low hgr (fun r e => (hr r e).1) (by omega) h2⟩
  have own_at : ∀ (o : Obj), OwnFrom W1.heap.size (fun (_ : List α) X => X.heap[lo]? = some o) := fun o s X Y row hs hgr hr => stays_low hgr (fun r e => (hr r e).1) (by omega) hs
  rw [← hlo] at hL ⊢
  refine (hseq lo
    (fun pre W => (I pre W ∧ W.heap[w.heap.size]? = some (.deferred (some []))) ∧ W.heap[lo]? = some (.loop (rec .ready none)))
    (fun pre W => ∃ c, (Ix c pre W ∧ W.heap[w.heap.size]? = some (.deferred (some []))) ∧ W.heap[lo]? = some (.loop (rec .done (some c))))
    W1 hb1
    (fun s A B row hs hgr hr => ⟨hJ I _ hI (fun _ _ => Iff.rfl) s A B row hs.1 hgr hr, own_at _ s A B row hs.2 hgr hr⟩)
    (fun s A B row hs hgr hr => by
      obtain ⟨c, h1, h2⟩ := hs
      exact ⟨c, hJ (Ix c) _ (hIx c) (fun _ _ => Iff.rfl) s A B row h1 hgr hr, own_at _ s A B row h2 hgr hr⟩)
    ?_ ⟨⟨hI1, hD⟩, hL⟩).mono ?_
  · rintro pre x W ⟨⟨hi, hd⟩, hl⟩ hlen
    have hy := run_yield (P := P) (args := encs x) hl (by rw [hrec]; exact hps x)
    rw [hrec] at hy
    refine ⟨fn, _, assign, body, hy, roundIn_of_wpIn hfn (hassign lo pre x W _ hi fun a' V hkf hkp hia hax => ?_)⟩
    clear hy
    replace hl := hkf.same _ _ (by omega) hl rfl
    replace hd := hkf.same _ _ (Nat.le_refl _) hd rfl
    have hlt : lo < V.heap.size := (Array.getElem?_eq_some_iff.1 hl).1
    refine ⟨_, run_beginRound hl (by rw [hrec]), ?_⟩
    have hl2 : (V.putObj lo (.loop { rec .ready none with state := .busy })).heap[lo]? = some (.loop { rec .ready none with state := .busy }) := World.putObj_heap_same hlt
    have hd2 : (V.putObj lo (.loop { rec .ready none with state := .busy })).heap[w.heap.size]? = some (.deferred (some [])) := (World.putObj_heap_other (by omega)).trans hd
    have hkk : ∀ (Z : World) (o : Obj), KeepsFrom w.heap.size (V.putObj lo (.loop { rec .ready none with state := .busy })) Z → KeepsFrom W1.heap.size W (Z.putObj lo o) := fun Z o hk => keepsFrom_trans (keepsFrom_trans (keepsFrom_trans (keepsFrom_more hkf (by omega)) (keepsFrom_put V _ (by omega))) (keepsFrom_more hk (by omega))) (keepsFrom_put Z o (by omega))
    have hk2 : R W (V.putObj lo (.loop { rec .ready none with state := .busy })) := hRt _ _ _ hkp (hRp _ _ _ _ hl rfl (by omega))
    refine wpIn_mono (hbody lo pre x a' _ (by omega) (hI.putObj _ hia (by omega) hl rfl) ((hAx x a').putObj (s := ()) _ hax (by omega) hl rfl) hlen) ?_
    have fin : ∀ (jump : Option Code) (Z : World), KeepsFrom w.heap.size (V.putObj lo (.loop { rec .ready none with state := .busy })) Z →
        (Instr.endRound lo jump).run P Z = .ok (.bool jump.isNone) (Z.putObj lo (.loop (rec (if jump.isNone then .ready else .done) jump))) ∧ Z.heap[lo]? = some (.loop { rec .ready none with state := .busy }) ∧
        (Z.putObj lo (.loop (rec (if jump.isNone then .ready else .done) jump))).heap[lo]? = some (.loop (rec (if jump.isNone then .ready else .done) jump)) ∧
        (Z.putObj lo (.loop (rec (if jump.isNone then .ready else .done) jump))).heap[w.heap.size]? = some (.deferred (some [])) := fun jump Z hk => by
      have h3 := hk.same _ _ (by omega) hl2 rfl
      have h4 := run_endRound (P := P) jump h3
      rw [hrec] at h4 h3 ⊢
      exact ⟨h4, h3, World.putObj_heap_same (Array.getElem?_eq_some_iff.1 h3).1, (World.putObj_heap_other (by omega)).trans (hk.same _ _ (Nat.le_refl _) hd2 rfl)⟩
    rintro e a3 Z hp
    cases e with
    | normal =>
      obtain ⟨hk3, hkp3, hi3⟩ := hp
      obtain ⟨hr, hl3, hl4, hd4⟩ := fin none Z hk3
      exact ⟨_, _, hr, .inl ⟨rfl, ⟨⟨hI.putObj _ hi3 (by omega) hl3 rfl, hd4⟩, hl4⟩, hRt _ _ _ (hRt _ _ _ hk2 hkp3) (hRp _ _ _ _ hl3 rfl (by omega)), hkk Z _ hk3⟩⟩
    | ret =>
      obtain ⟨hk3, hi3⟩ := hp
      obtain ⟨hr, hl3, hl4, hd4⟩ := fin (some .ret) Z hk3
      exact ⟨_, _, hr, .inr ⟨rfl, ⟨.ret, ⟨(hIx _).putObj _ hi3 (by omega) hl3 rfl, hd4⟩, hl4⟩, hkk Z _ hk3⟩⟩
    | exit id =>
      obtain ⟨hk3, hi3⟩ := hp
      obtain ⟨hr, hl3, hl4, hd4⟩ := fin (some (.exit id)) Z hk3
      exact ⟨_, _, hr, .inr ⟨rfl, ⟨.exit id, ⟨(hIx _).putObj _ hi3 (by omega) hl3 rfl, hd4⟩, hl4⟩, hkk Z _ hk3⟩⟩
    | goto t =>
      obtain ⟨hk3, hi3⟩ := hp
      obtain ⟨hr, hl3, hl4, hd4⟩ := fin (some (.goto t)) Z hk3
      exact ⟨_, _, hr, .inr ⟨rfl, ⟨.goto t, ⟨(hIx _).putObj _ hi3 (by omega) hl3 rfl, hd4⟩, hl4⟩, hkk Z _ hk3⟩⟩
    | panic ch => exact hp.elim
    | outgrown => exact hp.elim
  · rintro e W2 ⟨⟨v, rfl⟩, (⟨xs, hS, ⟨hi, hd⟩, hl⟩ | ⟨pre, hSp, c, ⟨hi, hd⟩, hl⟩)⟩
    · have hr := run_endLoop (P := P) hl (by rw [hrec]; simp)
      rw [hrec] at hr
      exact ⟨none, _, hr, hdone _ xs _ (Nat.le_refl _) hS (hI.putObj _ hi (by omega) hl rfl) ((World.putObj_heap_other (by omega)).trans hd)⟩
    · have hr := run_endLoop (P := P) hl (by rw [hrec]; simp)
      rw [hrec] at hr
      exact ⟨some c, _, hr, hstop _ c pre _ (Nat.le_refl _) hSp ((hIx c).putObj _ hi (by omega) hl rfl) ((World.putObj_heap_other (by omega)).trans hd)⟩

theorem blk_nc {X Y : World} {k : Nat} {t : TypeId} {cs : List Value} {row : Option Nat} (h : Blk X k t cs) (hg : X.grownBy Y row) (hr : ∀ r, row = some r → ∃ o : Obj, X.heap[r]? = some o ∧ o.isCells = false) : Blk Y k t cs :=
  ⟨(hg.block k h.lt (fun e => by
    obtain ⟨o', h2, h3⟩ := hr k e.symm
    rw [h.heap] at h2
    cases Option.some.inj h2
    cases h3)).trans h.heap⟩
theorem below_nc {X Y : World} {n₀ B : Nat} {w0 : World} {row : Option Nat} (h : Below n₀ w0 X) (hg : X.grownBy Y row) (hr : ∀ r, row = some r → B ≤ r) (hB : n₀ ≤ B) (hn : n₀ ≤ w0.heap.size) : Below n₀ w0 Y :=
  ⟨hg.os.trans h.os, hg.tape.trans h.tape, hg.output.trans h.output, Nat.le_trans h.size hg.size, fun k hk => (hg.block k (by have := h.size; omega) (fun e => by have := hr k e.symm; omega)).trans (h.block k hk)⟩
theorem own_nc {X Y : World} {b n size : Nat} {e : TypeId} {v : Value} {xs : List Value} {row : Option Nat} (h : X.ownsRow b e size v n xs) (hg : X.grownBy Y row) (hr : ∀ r, row = some r → ∃ o : Obj, X.heap[r]? = some o ∧ o.isCells = false) : Y.ownsRow b e size v n xs := by
  refine ⟨h.1, ?_⟩
  rcases h.2 with ⟨rfl, rfl⟩ | ⟨g, cap, cur, rfl, hg', hh, hrest⟩
  · exact .inl ⟨rfl, rfl⟩
  · refine .inr ⟨g, cap, cur, rfl, hg', (hg.block g (Array.getElem?_eq_some_iff.1 hh).1 (fun e => ?_)).trans hh, hrest⟩
    obtain ⟨o', h2, h3⟩ := hr g e.symm
    rw [hh] at h2
    cases Option.some.inj h2
    cases h3
theorem ownS_below {w w' : World} {b n size : Nat} {e : TypeId} {v : Value} {xs : List Value} (h : w.ownsRow b e size v n xs) (hb : Below w.heap.size w w') : w'.ownsRow b e size v n xs := by
  refine ⟨h.1, ?_⟩
  rcases h.2 with ⟨rfl, rfl⟩ | ⟨g, cap, cur, rfl, hg', hh, hrest⟩
  · exact .inl ⟨rfl, rfl⟩
  · exact .inr ⟨g, cap, cur, rfl, hg', (hb.block g (Array.getElem?_eq_some_iff.1 hh).1).trans hh, hrest⟩
theorem ownS_only {w w' : World} {b g n size : Nat} {e : TypeId} {v : Value} {xs : List Value} (h : w.ownsRow b e size v n xs) (ho : Only g w w') (hg : v.ownBlock ≠ some g) : w'.ownsRow b e size v n xs := by
  refine ⟨h.1, ?_⟩
  rcases h.2 with ⟨rfl, rfl⟩ | ⟨k, cap, cur, rfl, hb, hh, hr⟩
  · exact .inl ⟨rfl, rfl⟩
  · exact .inr ⟨k, cap, cur, rfl, hb, (ho.block k (fun e => hg (by rw [e]; rfl))).trans hh, hr⟩
theorem ownS_low {w : World} {b n size : Nat} {e : TypeId} {v : Value} {xs : List Value} (h : w.ownsRow b e size v n xs) : ∀ r, v.ownBlock = some r → b ≤ r := fun r hr => by
  rcases h.2 with ⟨rfl, rfl⟩ | ⟨k, cap, cur, rfl, hb, hh, hrest⟩
  · cases hr
  · have e2 : some k = some r := hr
    have := Option.some.inj e2
    omega
theorem ownS_nil (w : World) (b size : Nat) (e : TypeId) : w.ownsRow b e size (.slice none 0 0) 0 [] := World.ownsRow_nil _ _ _ _
theorem own_sl {w : World} {b n size : Nat} {e : TypeId} {v : Value} {xs : List Value} (h : w.ownsRow b e size v n xs) : ∃ A c, v = .slice A n c := by
  rcases h.2 with ⟨rfl, h0⟩ | ⟨k, cap, cur, rfl, hb, hh, hrest⟩
  · exact ⟨none, 0, by rw [h0]⟩
  · exact ⟨_, _, rfl⟩
section
variable {w : World} {ops : Array Oper} {o : Oper} {a : Act} {Q : Exit → Act → World → Prop} {t e : TypeId} {z : Value} {bytes size : Nat}
/-- a thing of so many cells, from a block of its own, appended to a row of the call's own -/
theorem step_appG {K : Act → World → Prop} {C : Prop} (ht : P.underlying t = some (.slice e)) (hinf : (P.info? e).map (fun i => (i.zero, i.size, i.bytes)) = some (some z, size, bytes)) (hzs : z.cells.size = size) (hpos : 0 < size) (hgd : o.guard = none) (s x : Operand)
    (ho : o.op = .call { callee := .builtin .append, args := #[s, x], argTypes := #[t, t] })
    (base : Nat) (v : Value) (n : Nat) (xs : List Value) (hs : a.eval s = v) (hown : w.ownsRow base e size v n xs)
    (g : Nat) (t' : TypeId) (ys : List Value) (hx : a.eval x = .slice (some ⟨g, 0, none⟩) 1 1) (hk : Blk w g t' ys) (hl : ys.length = size) (h1 : ∀ u ∈ ys, u.oneCell' = true)
    (h63 : n + 1 ≤ maxLen) (hbytes : (n + 1) * bytes ≤ 140737488355328) (hbase : base ≤ w.heap.size)
    (h : ∀ v' w', w'.ownsRow base e size v' (n + 1) (xs ++ ys) → w.grownBy w' v.ownBlock → (v'.ownBlock = v.ownBlock ∨ v'.ownBlock = some w.heap.size) → K (a.put o.dst v') w') :
    if Region.wanted o (yielded ops a.tmps) = true then Oper.wp P o a w K Q else C := by
  have hw : Region.wanted o (yielded ops a.tmps) = true := by simp [Region.wanted, hgd]
  rw [if_pos hw]
  obtain ⟨i, hi, hz0, hz1, hz2⟩ := info_parts hinf
  obtain ⟨v', w', hrun, h2, h3, _, h5⟩ := run_append_own_at (P := P) w base t o.type e i z size bytes ht hi hz0 hz1 hz2 hzs hpos v n xs hown ⟨g, 0, none⟩ 1 1 ys (by rw [hl, Nat.one_mul]) (fun j u hu => by rw [Addr.add_lit, Nat.zero_add, hk.cell? j]; exact hu) h1 h63 hbytes hbase
  unfold Oper.wp execOp
  simp only [ho, resolve, invoke, builtin, Sem.run_bind, Sem.run_pure, Result.andThen_ok, List.map_toArray, List.map_cons, List.map_nil, hs, hx, hrun]
  exact h v' w' h2 h3 h5
end
end Go.Proofs.Ytaedlaeflliibaa
