/- Worlds, and bytes that are held, as a statement's walk carries them; the methods over them. -/
import Derived.Test.YtalnbomnmmefgaaSea
import Derived.Test.YtalnbomnmmefgaaBump
import Derived.Test.YtalnbomnmmefgaaLie
import Derived.Test.YtalnbomnmmefgaaNewW
import Derived.Test.YtalnbomnmmefgaaSame
namespace Go.Proofs.Ytalnbomnmmefgaa
open Go.RowKit

abbrev Held := Option Addr × Nat × Nat × List UInt8
/-- how much was done -/
structure Sm (k : Nat) (t : Wd) : Prop where
  tr : t.tr.length ≤ k
  reads : t.reads ≤ k
  nl : t.nl ≤ k
def Each (w : World) (M : Nat → Prop) : List (Nat → Prop) → List (Nat × Wd) → Prop
  | [], [] => True
  | O :: Os, x :: xs => WIs w O M x.1 x.2 ∧ (∀ Q ∈ Os, ∀ k, O k → ¬ Q k) ∧ Each w M Os xs
  | _, _ => False
/-- what lay apart when it was looked at is as it was -/
structure Snap (s : World × (Nat → Prop)) (w : World) (M : Nat → Prop) : Prop where
  chg : Chg s.2 s.1 w
  new : ∀ k, M k → s.2 k ∨ s.1.heap.size ≤ k
theorem Snap.next {s : World × (Nat → Prop)} {w w' : World} {M M' S : Nat → Prop} (h : Snap s w M) (hc : Chg S w w') (hS : ∀ k, S k → M k) (hM : ∀ k, M' k → M k ∨ w.heap.size ≤ k) : Snap s w' M' :=
  ⟨h.chg.trans hc (fun k hk hs => (h.new k (hS k hs)).elim id (fun h9 => absurd hk (by omega))), fun k hk => (hM k hk).elim (h.new k) (fun h9 => .inr (Nat.le_trans h.chg.size h9))⟩
structure StS (w0 w : World) (k : Nat) (ws : List (Nat × Wd)) (hs : List Held) (sn : List (World × (Nat → Prop))) : Prop where
  is : ∃ M Os, Each w M Os ws ∧ (∀ k, M k → k < w.heap.size) ∧ (∀ k, M k → w0.heap.size ≤ k) ∧ (∀ h ∈ hs, BsM w M h.1 h.2.1 h.2.2.1 h.2.2.2) ∧ ∀ s ∈ sn, Snap s w M
  below : Below w0.heap.size w0 w
  small : ∀ x ∈ ws, Sm k x.2
abbrev St (w0 w : World) (k : Nat) (ws : List (Nat × Wd)) (hs : List Held) : Prop := StS w0 w k ws hs []
section
variable {w0 w w' : World} {k b : Nat} {t : Wd} {ws : List (Nat × Wd)} {hs : List Held} {M : Nat → Prop} {sn : List (World × (Nat → Prop))}
theorem Each.chg {S : Nat → Prop} {M' : Nat → Prop} (hc : Chg S w w') (hSM : ∀ k, S k → M k) (hM : ∀ k, M' k → M k ∨ w.heap.size ≤ k) (hMM : ∀ k, M k → M' k) (hlt : ∀ k, M' k → k < w'.heap.size) :
    ∀ {Os : List (Nat → Prop)} {ws : List (Nat × Wd)}, (∀ Q ∈ Os, ∀ k, S k → ¬ Q k) → Each w M Os ws → Each w' M' Os ws
  | [], [], _, _ => trivial
  | O :: Os, x :: xs, hd, h => by
    obtain ⟨⟨ad, p, L, hP⟩, h2, h3⟩ := h
    exact ⟨⟨ad, p, L, hP.chg hc (fun k hk => hd O (by simp) k hk) hSM hM hMM hlt⟩, h2, Each.chg hc hSM hM hMM hlt (fun Q hQ => hd Q (by simp [hQ])) h3⟩
  | [], _ :: _, _, h => h.elim
  | _ :: _, [], _, h => h.elim
theorem Each.lt : ∀ {Os : List (Nat → Prop)} {ws : List (Nat × Wd)}, Each w M Os ws → ∀ Q ∈ Os, ∀ k, Q k → k < w.heap.size
  | [], [], _, Q, hQ => by cases hQ
  | O :: Os, x :: xs, h, Q, hQ => by
    obtain ⟨⟨ad, p, L, hP⟩, h2, h3⟩ := h
    rcases List.mem_cons.1 hQ with rfl | hQ
    · exact fun k hk => hP.lt k (hP.sub k hk)
    · exact Each.lt h3 Q hQ
  | [], _ :: _, h, _, _ => h.elim
  | _ :: _, [], h, _, _ => h.elim
theorem St.start (w : World) : St w w 0 [] [] := ⟨⟨fun _ => False, [], trivial, fun _ h => h.elim, fun _ h => h.elim, (fun _ h => by cases h), (fun _ h => by cases h)⟩, Below.refl _ _, fun _ h => by cases h⟩
theorem StS.more (h : StS w0 w k ws hs sn) {k' : Nat} (hk : k ≤ k') : StS w0 w k' ws hs sn := ⟨h.is, h.below, fun x hx => ⟨Nat.le_trans (h.small x hx).tr hk, Nat.le_trans (h.small x hx).reads hk, Nat.le_trans (h.small x hx).nl hk⟩⟩
theorem StS.heldM (h : StS w0 w k ws hs sn) {A : Option Addr} {n c : Nat} {l : List UInt8} (hm : (A, n, c, l) ∈ hs) : Bs w w.heap.size A n c l ∧ n ≤ 4294967296 := by
  obtain ⟨M, Os, _, _, _, hh, _⟩ := h.is
  exact ⟨(hh _ hm).bs, (hh _ hm).fit⟩
theorem StS.arg (h : StS w0 w k ws hs sn) {A : Option Addr} {n c : Nat} {l : List UInt8} (ha : Bs w0 w0.heap.size A n c l) : Bs w w.heap.size A n c l := (ha.below h.below).more h.below.size
/-- an argument of the statement's is held -/
theorem StS.hold (h : StS w0 w k ws hs sn) {A : Option Addr} {n c : Nat} {l : List UInt8} (ha : Bs w0 w0.heap.size A n c l) (hn : n ≤ 4294967296) : StS w0 w k ws ((A, n, c, l) :: hs) sn := by
  obtain ⟨M, Os, h1, h2, h3, h4, h5⟩ := h.is
  refine ⟨⟨M, Os, h1, h2, h3, fun x hx => ?_, h5⟩, h.below, h.small⟩
  rcases List.mem_cons.1 hx with rfl | hx
  · exact BsM.of_bs (ha.below h.below) h.below.size h3 hn
  · exact h4 x hx
/-- what lies apart from all, new -/
theorem StS.grow (h : StS w0 w k ws hs sn) (hb : Below w.heap.size w w') : StS w0 w' k ws hs sn := by
  obtain ⟨M, Os, h1, h2, h3, h4, h5⟩ := h.is
  have hlt : ∀ k, M k → k < w'.heap.size := fun k hk => Nat.lt_of_lt_of_le (h2 k hk) hb.size
  refine ⟨⟨M, Os, h1.chg (S := fun _ => False) (Chg.of_below _ hb) (fun _ h => h.elim) (fun _ h => .inl h) (fun _ h => h) hlt (fun _ _ _ h => h.elim), hlt, h3, (fun x hx => (h4 x hx).below hb), fun s hs => (h5 s hs).next (Chg.of_below (fun _ => False) hb) (fun _ h => h.elim) (fun _ h => .inl h)⟩, h.below.trans (hb.mono h.below.size), h.small⟩
/-- .. of which bytes are held -/
theorem StS.growHold (h : StS w0 w k ws hs sn) (hb : Below w.heap.size w w') {v : Value} {e : TypeId} {n : Nat} {l : List UInt8} (ho : w'.ownsRow w.heap.size e 1 v n (cells8 l)) (hn : n ≤ 4294967296) : ∃ A c, v = .slice A n c ∧ StS w0 w' k ws ((A, n, c, l) :: hs) sn := by
  obtain ⟨M0, Os0, g1, g2, g3, g4, g5⟩ := h.is
  have hlt : ∀ k, M0 k → k < w'.heap.size := fun k hk => Nat.lt_of_lt_of_le (g2 k hk) hb.size
  obtain ⟨A, c, rfl, hB⟩ := BsM.of_own (M := M0) ho g2 hn
  refine ⟨A, c, rfl, ⟨M0, Os0, g1.chg (S := fun _ => False) (Chg.of_below _ hb) (fun _ h => h.elim) (fun _ h => .inl h) (fun _ h => h) hlt (fun _ _ _ h => h.elim), hlt, g3, fun x hx => ?_, fun s hs => (g5 s hs).next (Chg.of_below (fun _ => False) hb) (fun _ h => h.elim) (fun _ h => .inl h)⟩, h.below.trans (hb.mono h.below.size), h.small⟩
  rcases List.mem_cons.1 hx with rfl | hx
  · exact hB
  · exact (g4 x hx).below hb
theorem StS.drew (h : StS w0 w k ws hs sn) : StS w0 w.drew k ws hs sn := h.grow (Below.refl _ _).drew
theorem StS.forget (h : StS w0 w k ws hs sn) {hs' : List Held} (hsub : ∀ x ∈ hs', x ∈ hs) : StS w0 w k ws hs' sn := by
  obtain ⟨M, Os, h1, h2, h3, h4, h5⟩ := h.is
  exact ⟨⟨M, Os, h1, h2, h3, (fun x hx => h4 x (hsub x hx)), h5⟩, h.below, h.small⟩
theorem Each.swap {x y : Nat × Wd} {Os : List (Nat → Prop)} (h1 : Each w M Os [x, y]) : ∃ Qs, Each w M Qs [y, x] := by
  cases Os with
  | nil => exact h1.elim
  | cons O Os =>
    obtain ⟨a, d, h2⟩ := h1
    cases Os with
    | nil => exact h2.elim
    | cons Q Os =>
      obtain ⟨a2, _, h3⟩ := h2
      refine ⟨[Q, O], a2, fun R hR k hq ho => ?_, a, (fun _ h => by cases h), trivial⟩
      obtain rfl : R = O := by simpa using hR
      exact d Q (by simp) k ho hq
theorem StS.swap {x y : Nat × Wd} (h : StS w0 w k [x, y] hs sn) : StS w0 w k [y, x] hs sn := by
  obtain ⟨M, Os, h1, h2, h3, h4, h5⟩ := h.is
  obtain ⟨Qs, hQ⟩ := h1.swap
  refine ⟨⟨M, Qs, hQ, h2, h3, h4, h5⟩, h.below, fun z hz => h.small z ?_⟩
  simp only [List.mem_cons, List.not_mem_nil, or_false] at hz ⊢
  exact hz.symm
/-- the first World, to be worked on -/
theorem StS.use (h : StS w0 w k ((b, t) :: ws) hs sn) : ∃ O M ad p L, Parts w O M b ad t p L ∧ (∀ x ∈ hs, BsM w M x.1 x.2.1 x.2.2.1 x.2.2.2) ∧
    ∀ w' O' ad' t' p' L', Parts w' O' (Or2 M O') b ad' t' p' L' → Nx w O w' O' → Sm (k + 1) t' → StS w0 w' (k + 1) ((b, t') :: ws) hs sn ∧ ∀ A n c l, BsM w' (Or2 M O') A n c l → StS w0 w' (k + 1) ((b, t') :: ws) ((A, n, c, l) :: hs) sn := by
  obtain ⟨M, Os, h1, h2, h3, h4, h5⟩ := h.is
  match Os, h1 with
  | O :: Os, h1 =>
    obtain ⟨⟨ad, p, L, hP⟩, hd, hE⟩ := h1
    refine ⟨O, M, ad, p, L, hP, h4, fun w' O' ad' t' p' L' hP' hN hS => ?_⟩
    have hM := or2_new hP.sub hN
    have hlt := or2_lt hP.lt hN
    have hE' : Each w' (Or2 M O') Os ws := hE.chg hN.chg hP.sub hM (fun _ h => .inl h) hlt hd
    have h0 : ∀ k, Or2 M O' k → w0.heap.size ≤ k := fun k hk => (hM k hk).elim (h3 k) (fun h9 => Nat.le_trans h.below.size h9)
    have hB : Below w0.heap.size w0 w' := h.below.trans (hN.chg.below (fun k hk => h3 k (hP.sub k hk)) h.below.size)
    have hdis : ∀ Q ∈ Os, ∀ k, O' k → ¬ Q k := fun Q hQ k hk hq => by
      rcases hN.new k hk with h9 | h9
      · exact hd Q hQ k h9 hq
      · have := hE.lt Q hQ k hq
        omega
    have hsm : ∀ x ∈ (b, t') :: ws, Sm (k + 1) x.2 := fun x hx => by
      rcases List.mem_cons.1 hx with rfl | hx
      · exact hS
      · have := h.small x (by simp [hx])
        exact ⟨by have := this.tr; omega, by have := this.reads; omega, by have := this.nl; omega⟩
    have hsn : ∀ s ∈ sn, Snap s w' (Or2 M O') := fun s hs => (h5 s hs).next hN.chg hP.sub hM
    have hh : ∀ x ∈ hs, BsM w' (Or2 M O') x.1 x.2.1 x.2.2.1 x.2.2.2 := fun x hx => (h4 x hx).nx hP.sub hN
    refine ⟨⟨⟨Or2 M O', O' :: Os, ⟨⟨ad', p', L', hP'⟩, hdis, hE'⟩, hlt, h0, hh, hsn⟩, hB, hsm⟩, fun A n c l hb => ⟨⟨Or2 M O', O' :: Os, ⟨⟨ad', p', L', hP'⟩, hdis, hE'⟩, hlt, h0, fun x hx => ?_, hsn⟩, hB, hsm⟩⟩
    rcases List.mem_cons.1 hx with rfl | hx
    · exact hb
    · exact hh x hx
theorem StS.slen (h : StS w0 w k ((b, t) :: ws) hs sn) {x : Int × Int} (hx : inR t.n x = true) : (t.sl x).length = 272 := by
  obtain ⟨O, M, ad, p, L, hP, _⟩ := h.use
  have h1 := hP.slots.has x
  rw [hx] at h1
  obtain ⟨g, hg⟩ := Option.isSome_iff_exists.1 h1
  exact hP.slots.len x g hg
theorem StS.left (h : StS w0 w k ((b, t) :: ws) hs sn) : t.left ≤ 1000000 ∧ t.ctr < 18446744073709551616 := by
  obtain ⟨O, M, ad, p, L, hP, _⟩ := h.use
  exact ⟨hP.pow, hP.num⟩

/-- to look at it now -/
theorem StS.snap (h : StS w0 w k ws hs sn) : ∃ M, (∀ k, M k → k < w.heap.size) ∧ StS w0 w k ws hs ((w, M) :: sn) := by
  obtain ⟨M, Os, h1, h2, h3, h4, h5⟩ := h.is
  refine ⟨M, h2, ⟨M, Os, h1, h2, h3, h4, fun s hs => ?_⟩, h.below, h.small⟩
  rcases List.mem_cons.1 hs with rfl | hs
  · exact ⟨Chg.refl _ _, fun _ h => .inl h⟩
  · exact h5 s hs
theorem StS.seen (h : StS w0 w k ws hs sn) {s : World × (Nat → Prop)} (hs : s ∈ sn) : Chg s.2 s.1 w := by
  obtain ⟨M, Os, _, _, _, _, h5⟩ := h.is
  exact (h5 s hs).chg
theorem StS.unsee (h : StS w0 w k ws hs sn) {sn' : List (World × (Nat → Prop))} (hsub : ∀ x ∈ sn', x ∈ sn) : StS w0 w k ws hs sn' := by
  obtain ⟨M, Os, h1, h2, h3, h4, h5⟩ := h.is
  exact ⟨⟨M, Os, h1, h2, h3, h4, fun s hs => h5 s (hsub s hs)⟩, h.below, h.small⟩
/-! ### how much is done by each -/
theorem sm_up (h : Sm k t) : Sm (k + 1) t := ⟨by have := h.tr; omega, by have := h.reads; omega, by have := h.nl; omega⟩
theorem sm_tell (h : Sm k t) (a b c : Int) (l : List UInt8) : Sm (k + 1) (tellW t a b c l) := ⟨by have := h.tr; simp [tellW]; omega, by have := h.reads; simp [tellW]; omega, by have := h.nl; simp [tellW]; omega⟩
theorem sm_read (h : Sm k t) (x : Int × Int) : Sm (k + 1) (readW t x) := by
  unfold readW; split
  · exact sm_tell h _ _ _ _
  · exact sm_up h
theorem sm_look (h : Sm k t) (i : Int) : Sm (k + 1) (lookW t i) := by
  unfold lookW; split
  · exact sm_tell h _ _ _ _
  · exact sm_up h
theorem sm_lay (h : Sm k t) (n : Nat) : Sm k (layW t n) := by
  obtain ⟨_, _, _, _, _, q6, q7, _, q9, _⟩ := layW_same t n
  exact ⟨by rw [q7]; exact h.tr, by rw [q9]; exact h.reads, by rw [q6]; exact h.nl⟩
theorem sm_note (h : Sm k t) (x : Tr) : Sm (k + 1) { t with tr := t.tr ++ [x] } := ⟨by have := h.tr; simp; omega, by have := h.reads; simp; omega, by have := h.nl; simp; omega⟩
theorem sm_write (h : Sm k t) (x : Int × Int) (l : List UInt8) : Sm (k + 1) (writeW t x l) := by
  unfold writeW; split
  · have := sm_lay (sm_note h ⟨2, x.1, x.2, l⟩) 272
    exact ⟨this.tr, this.reads, this.nl⟩
  · exact sm_up h
theorem sm_seal (h : Sm k t) (i : Int) (l : List UInt8) : Sm (k + 1) (sealedW t i l) := by
  unfold sealedW; split
  · have := sm_lay (sm_note h ⟨4, i, 0, l⟩) l.length
    split
    · exact ⟨this.tr, this.reads, this.nl⟩
    · exact ⟨this.tr, this.reads, this.nl⟩
  · exact sm_up h
theorem sm_bump (h : Sm k t) : Sm (k + 1) (bumpW t) := by
  obtain ⟨_, _, _, _, _, q6, q7, _, q9⟩ := takeW_same t
  have h1 := sm_up h
  unfold bumpW
  split
  · exact h1
  · split
    · exact h1
    · split
      · exact ⟨by have := h.tr; simp; omega, by rw [show ({ takeW t with ctr := t.ctr + 1, tr := t.tr ++ [⟨5, 0, 0, []⟩] } : Wd).reads = (takeW t).reads from rfl, q9]; exact h1.reads, by rw [show ({ takeW t with ctr := t.ctr + 1, tr := t.tr ++ [⟨5, 0, 0, []⟩] } : Wd).nl = (takeW t).nl from rfl, q6]; exact h1.nl⟩
      · exact ⟨by rw [q7]; exact h1.tr, by rw [q9]; exact h1.reads, by rw [q6]; exact h1.nl⟩
theorem sm_lie (h : Sm k t) (n : Int) (l : List UInt8) : Sm (k + 1) (lieW t n l) := by
  unfold lieW; split
  · exact sm_up h
  · exact ⟨by have := h.tr; simp; omega, by have := h.reads; simp; omega, by have := h.nl; simp; omega⟩
theorem sm_arm (h : Sm k t) (n : Int) : Sm (k + 1) (armW t n) := by
  unfold armW; split
  · exact sm_up h
  · exact sm_up ⟨h.tr, h.reads, h.nl⟩
theorem sm_restart (h : Sm k t) : Sm (k + 1) (restartW t) := sm_up ⟨h.tr, h.reads, h.nl⟩
theorem sm_set (h : Sm k t) (n : Nat) : Sm (k + 1) (setW t n) := sm_up ⟨h.tr, h.reads, h.nl⟩

/-! ### the methods -/
theorem st_new (h : StS w0 w k ws hs sn) (N : Nat) (hN : N ≤ 4096) :
    Calls Try.prog 11 #[.int .i64 (N : Int)] w fun e w' => ∃ b, e = .returned (.pointer (some ⟨b, 0, none⟩)) ∧ StS w0 w' k ((b, newW N) :: ws) hs sn := by
  refine (new_any N w hN).mono ?_
  rintro e w' ⟨rfl, ⟨O, p, hP, hO⟩, hb⟩
  obtain ⟨M, Os, h1, h2, h3, h4, h5⟩ := h.is
  have hlt : ∀ k, Or2 M O k → k < w'.heap.size := fun k hk => hk.elim (fun h9 => Nat.lt_of_lt_of_le (h2 k h9) hb.size) (hP.lt k)
  have hM : ∀ k, Or2 M O k → M k ∨ w.heap.size ≤ k := fun k hk => hk.imp id (hO k)
  refine ⟨_, rfl, ⟨Or2 M O, O :: Os, ⟨⟨ad0 w.heap.size, p, [], ?_⟩, fun Q hQ k hk hq => ?_, ?_⟩, hlt, fun k hk => (hM k hk).elim (h3 k) (fun h9 => Nat.le_trans h.below.size h9), fun x hx => ?_, fun s hs => (h5 s hs).next (Chg.of_below (fun _ => False) hb) (fun _ h => h.elim) hM⟩, h.below.trans (hb.mono h.below.size), fun x hx => ?_⟩
  · exact ⟨fun k hk => .inr hk, hlt, hP.ob, hP.blk, hP.slots, .inl ⟨rfl, fun _ _ => rfl⟩, ⟨none, 0, 0, rfl, BsM.zero _ _⟩, ⟨none, 0, 0, rfl, BsM.zero _ _⟩, ⟨hP.trace.own, hP.trace.mine, TrL.nil _ _⟩, hP.big, hP.pow, hP.num, hP.read, hP.two⟩
  · have := h1.lt Q hQ k hq
    have := hO k hk
    omega
  · exact h1.chg (S := fun _ => False) (Chg.of_below _ hb) (fun _ h => h.elim) hM (fun _ h => .inl h) hlt (fun _ _ _ h => h.elim)
  · exact (h4 x hx).chg (S := fun _ => False) (Chg.of_below _ hb) (fun _ h => h.elim) hM
  · rcases List.mem_cons.1 hx with rfl | hx
    · exact ⟨Nat.zero_le _, Nat.zero_le _, Nat.zero_le _⟩
    · exact h.small x hx
theorem StS.first (h : StS w0 w k ((b, t) :: ws) hs sn) : Sm k t := h.small (b, t) (by simp)
theorem st_read (h : StS w0 w k ((b, t) :: ws) hs sn) (hk : k ≤ 1000000) (x y : Int) (hx : okP (x, y)) :
    Calls Try.prog 13 #[.pointer (some ⟨b, 0, none⟩), .int .i64 x, .int .i64 y] w fun e w' => ∃ A n c, e = .returned (.slice A n c) ∧ StS w0 w' (k + 1) ((b, readW t (x, y)) :: ws) ((A, n, c, readL t (x, y)) :: hs) sn := by
  obtain ⟨O, M, ad, p, L, hP, _, hU⟩ := h.use
  refine (read_any hP x y hx (by have := h.first.tr; omega) (by have := h.first.reads; omega)).mono ?_
  rintro e w' ⟨A, n, c, ad', L', O', rfl, hP', hN, hB⟩
  exact ⟨A, n, c, rfl, (hU _ _ _ _ _ _ hP' hN (sm_read h.first _)).2 _ _ _ _ hB⟩
theorem st_look (h : StS w0 w k ((b, t) :: ws) hs sn) (hk : k ≤ 1000000) (i : Int) :
    Calls Try.prog 30 #[.pointer (some ⟨b, 0, none⟩), .int .i64 i] w fun e w' => ∃ A n c, e = .returned (.slice A n c) ∧ StS w0 w' (k + 1) ((b, lookW t i) :: ws) ((A, n, c, lookL t i) :: hs) sn := by
  obtain ⟨O, M, ad, p, L, hP, _, hU⟩ := h.use
  refine (look_any hP i (by have := h.first.tr; omega) (by have := h.first.reads; omega)).mono ?_
  rintro e w' ⟨A, n, c, ad', L', O', rfl, hP', hN, hB⟩
  exact ⟨A, n, c, rfl, (hU _ _ _ _ _ _ hP' hN (sm_look h.first _)).2 _ _ _ _ hB⟩
theorem st_write (h : StS w0 w k ((b, t) :: ws) hs sn) (hk : k ≤ 1000000) (x y : Int) (hx : okP (x, y)) (A : Option Addr) (n c : Nat) (l : List UInt8) (hm : (A, n, c, l) ∈ hs) :
    Calls Try.prog 12 #[.pointer (some ⟨b, 0, none⟩), .int .i64 x, .int .i64 y, .slice A n c] w fun e w' => e = .returned (.bool (writeB t (x, y))) ∧ StS w0 w' (k + 1) ((b, writeW t (x, y) l) :: ws) hs sn := by
  obtain ⟨O, M, ad, p, L, hP, hH, hU⟩ := h.use
  refine (write_any hP x y hx A n c l (hH _ hm) (by have := h.first.tr; omega)).mono ?_
  rintro e w' ⟨ad', L', O', rfl, hP', hN⟩
  exact ⟨rfl, (hU _ _ _ _ _ _ hP' hN (sm_write h.first _ _)).1⟩
theorem st_seal (h : StS w0 w k ((b, t) :: ws) hs sn) (hk : k ≤ 1000000) (i : Int) (A : Option Addr) (n c : Nat) (l : List UInt8) (hm : (A, n, c, l) ∈ hs) :
    Calls Try.prog 29 #[.pointer (some ⟨b, 0, none⟩), .int .i64 i, .slice A n c] w fun e w' => e = .returned (.bool (sealB t i l)) ∧ StS w0 w' (k + 1) ((b, sealedW t i l) :: ws) hs sn := by
  obtain ⟨O, M, ad, p, L, hP, hH, hU⟩ := h.use
  refine (seal_any hP i A n c l (hH _ hm) (by have := h.first.tr; omega)).mono ?_
  rintro e w' ⟨rfl, ad', L', O', hP', hN⟩
  exact ⟨rfl, (hU _ _ _ _ _ _ hP' hN (sm_seal h.first _ _)).1⟩
theorem st_bump (h : StS w0 w k ((b, t) :: ws) hs sn) (hk : k ≤ 1000000) :
    Calls Try.prog 18 #[.pointer (some ⟨b, 0, none⟩)] w fun e w' => e = .returned (.bool (bumpB t)) ∧ StS w0 w' (k + 1) ((b, bumpW t) :: ws) hs sn := by
  obtain ⟨O, M, ad, p, L, hP, _, hU⟩ := h.use
  refine (bump_any hP (by have := h.first.tr; omega)).mono ?_
  rintro e w' ⟨rfl, ad', L', O', hP', hN⟩
  exact ⟨rfl, (hU _ _ _ _ _ _ hP' hN (sm_bump h.first)).1⟩
theorem st_lie (h : StS w0 w k ((b, t) :: ws) hs sn) (hk : k ≤ 1000000) (i : Int) (hi : okI i) (A : Option Addr) (n c : Nat) (l : List UInt8) (hm : (A, n, c, l) ∈ hs) :
    Calls Try.prog 14 #[.pointer (some ⟨b, 0, none⟩), .int .i64 i, .slice A n c] w fun e w' => e = .returned (.tuple #[]) ∧ StS w0 w' (k + 1) ((b, lieW t i l) :: ws) hs sn := by
  obtain ⟨O, M, ad, p, L, hP, hH, hU⟩ := h.use
  refine (lie_any hP i hi A n c l (hH _ hm) (by have := h.first.nl; omega)).mono ?_
  rintro e w' ⟨rfl, ad', O', hP', hN⟩
  exact ⟨rfl, (hU _ _ _ _ _ _ hP' hN (sm_lie h.first _ _)).1⟩
theorem st_arm (h : StS w0 w k ((b, t) :: ws) hs sn) (n : Int) :
    Calls Try.prog 16 #[.pointer (some ⟨b, 0, none⟩), .int .i64 n] w fun e w' => e = .returned (.tuple #[]) ∧ StS w0 w' (k + 1) ((b, armW t n) :: ws) hs sn := by
  obtain ⟨O, M, ad, p, L, hP, _, hU⟩ := h.use
  refine (arm_any hP n).mono ?_
  rintro e w' ⟨rfl, hP', hN⟩
  exact ⟨rfl, (hU _ _ _ _ _ _ hP'.stayO hN (sm_arm h.first _)).1⟩
theorem st_restart (h : StS w0 w k ((b, t) :: ws) hs sn) :
    Calls Try.prog 20 #[.pointer (some ⟨b, 0, none⟩)] w fun e w' => e = .returned (.tuple #[]) ∧ StS w0 w' (k + 1) ((b, restartW t) :: ws) hs sn := by
  obtain ⟨O, M, ad, p, L, hP, _, hU⟩ := h.use
  refine (restart_any hP).mono ?_
  rintro e w' ⟨rfl, hP', hN⟩
  exact ⟨rfl, (hU _ _ _ _ _ _ hP'.stayO hN (sm_restart h.first)).1⟩
theorem st_set (h : StS w0 w k ((b, t) :: ws) hs sn) (n : Nat) (hn : n < 18446744073709551616) :
    Calls Try.prog 31 #[.pointer (some ⟨b, 0, none⟩), .int .u64 (n : Int)] w fun e w' => e = .returned (.tuple #[]) ∧ StS w0 w' (k + 1) ((b, setW t n) :: ws) hs sn := by
  obtain ⟨O, M, ad, p, L, hP, _, hU⟩ := h.use
  refine (set_any hP n hn).mono ?_
  rintro e w' ⟨rfl, hP', hN⟩
  exact ⟨rfl, (hU _ _ _ _ _ _ hP'.stayO hN (sm_set h.first _)).1⟩
theorem st_dead (h : StS w0 w k ((b, t) :: ws) hs sn) :
    Calls Try.prog 17 #[.pointer (some ⟨b, 0, none⟩)] w fun e w' => e = .returned (.bool t.lost) ∧ w' = w := by
  obtain ⟨O, M, ad, p, L, hP, _⟩ := h.use
  exact dead_any b ad t w hP.blk
theorem st_counter (h : StS w0 w k ((b, t) :: ws) hs sn) :
    Calls Try.prog 19 #[.pointer (some ⟨b, 0, none⟩)] w fun e w' => e = .returned (.int .u64 (ctrW t : Int)) ∧ w' = w := by
  obtain ⟨O, M, ad, p, L, hP, _⟩ := h.use
  exact counter_any hP
theorem st_same (h : StS w0 w k ws hs sn) {A B : Option Addr} {n c m d : Nat} {l l' : List UInt8} (h1 : (A, n, c, l) ∈ hs) (h2 : (B, m, d, l') ∈ hs) :
    Calls Try.prog 15 #[.slice A n c, .slice B m d] w fun e w' => e = .returned (.bool (l == l')) ∧ w = w' :=
  same_any A B n c m d l l' w _ _ (h.heldM h1).1 (h.heldM h2).1
end
end Go.Proofs.Ytalnbomnmmefgaa
