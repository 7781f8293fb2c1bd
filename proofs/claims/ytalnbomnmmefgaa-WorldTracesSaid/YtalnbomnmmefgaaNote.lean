/- The contract of world's note. -/
import Derived.Test.YtalnbomnmmefgaaTraced
import Derived.WalkMore
namespace Go.Proofs.Ytalnbomnmmefgaa
open Go.RowKit

theorem infoTr : ((Try.prog).info? 61).map (fun i => (i.zero, i.size, i.bytes)) = some (some (.agg zeroTr.toArray), 4, 48) := by kernel_rfl
section
variable {w : World} {ops : Array Oper} {o : Oper} {a : Act} {Q : Exit → Act → World → Prop}
/-- append of one traced thing, as a step of a region whose order is open -/
theorem step_appT {K : Act → World → Prop} {C : Prop} (hgd : o.guard = none) (s x : Operand)
    (ho : o.op = .call { callee := .builtin .append, args := #[s, x], argTypes := #[40, 40] })
    (v : Value) (n : Nat) (L : List Hd4) (hs : a.eval s = v) (hown : w.ownsRow 0 61 4 v n (trCells L)) (hd : Hd4) (g : Nat)
    (hx : a.eval x = .slice (some ⟨g, 0, none⟩) 1 1) (hb : Blk w g 61 (hd4 hd)) (h63 : n ≤ 1000000)
    (h : ∀ v' w', w'.ownsRow 0 61 4 v' (n + 1) (trCells L ++ hd4 hd) → w.grownBy w' v.ownBlock → (v'.ownBlock = v.ownBlock ∨ v'.ownBlock = some w.heap.size) → K (a.put o.dst v') w') :
    if Region.wanted o (yielded ops a.tmps) = true then Oper.wp Try.prog o a w K Q else C := by
  have hw : Region.wanted o (yielded ops a.tmps) = true := by simp [Region.wanted, hgd]
  rw [if_pos hw]
  obtain ⟨i, hi, hz0, hz1, hz2⟩ := info_parts infoTr
  obtain ⟨v', w', hrun, h2, h3, _, h5⟩ := run_append_own_at (P := Try.prog) w 0 40 o.type 61 i (.agg zeroTr.toArray) 4 48 Try.underlying40 hi hz0 hz1 hz2 rfl (by decide) v n (trCells L) hown ⟨g, 0, none⟩ 1 1 (hd4 hd) rfl
    (fun j u hu => by rw [Addr.add_lit, Nat.zero_add, hb.cell? j]; exact hu) (hd4_one hd) (by simp only [maxLen]; omega) (by omega) (Nat.zero_le _)
  unfold Oper.wp execOp
  simp only [ho, resolve, invoke, builtin, Sem.run_bind, Sem.run_pure, Result.andThen_ok, List.map_toArray, List.map_cons, List.map_nil, hs, hx, hrun]
  exact h v' w' h2 h3 h5
end

theorem Tc.later {O M : Nat → Prop} {vt : Value} {tr : List Tr} {L : List Hd4} {w w' : World} (h : Tc w O M vt tr L) (hb : Below w.heap.size w w') : w'.ownsRow 0 61 4 vt tr.length (trCells L) :=
  own4_stay h.own (fun g hg => hb.block g (by obtain ⟨cs, hh⟩ := h.row hg; exact (Array.getElem?_eq_some_iff.1 hh).1))
theorem own_slice {w : World} {base size n : Nat} {e : TypeId} {v : Value} {xs : List Value} (h : w.ownsRow base e size v n xs) : ∃ A n c, v = .slice A n c := by
  rcases h.2 with ⟨rfl, _⟩ | ⟨g, cap, cur, rfl, _⟩
  · exact ⟨_, _, _, rfl⟩
  · exact ⟨_, _, _, rfl⟩
def noteO (O : Nat → Prop) (v : Value) : Nat → Prop := fun k => O k ∨ v.ownBlock = some k
theorem note_parts {O M : Nat → Prop} {b : Nat} {ad : Ad} {t : Wd} {p : Int × Int → Option Nat} {L : List Hd4} {w w1 w2 w3 : World} (h : Parts w O M b ad t p L) {x : Tr} (hk : TrOk x) {A : Option Addr} {n c : Nat} (hb1 : Below w.heap.size w w1)
    (hrow : w1.ownsRow w.heap.size 5 1 (.slice A n c) n (cells8 x.bytes)) (hn : n ≤ 4294967296) {v : Value} (hb2 : Below w1.heap.size w1 w2) (hown : w3.ownsRow 0 61 4 v (t.tr.length + 1) (trCells L ++ hd4 (x.kind, x.pl, x.slot, A, n, c))) (hg : w2.grownBy w3 ad.vt.ownBlock)
    (hloc : v.ownBlock = ad.vt.ownBlock ∨ v.ownBlock = some w2.heap.size) :
    Blk w3 b 75 (wdCells ad t) ∧ Parts (w3.setCell ⟨b, 9, none⟩ v) (noteO O v) (Or2 M (noteO O v)) b { ad with vt := v } { t with tr := t.tr ++ [x] } p (L ++ [(x.kind, x.pl, x.slot, A, n, c)]) ∧ Nx w O (w3.setCell ⟨b, 9, none⟩ v) (noteO O v) := by
  have hOlt : ∀ k, O k → k < w.heap.size := fun k hk => h.lt k (h.sub k hk)
  have C12 : Chg O w1 w2 := Chg.of_below O hb2
  have C23 : Chg O w2 w3 := Chg.of_grown hg (fun g e => h.trace.mine g e)
  have C13 : Chg O w1 w3 := C12.trans C23 (fun _ _ h => h)
  have C03 : Chg O w w3 := (Chg.of_below O hb1).trans C13 (fun _ _ h => h)
  have keep3 : ∀ k, O k → ad.vt.ownBlock ≠ some k → w3.heap[k]? = w.heap[k]? := fun k hk hne => by
    have hkl := hOlt k hk
    rw [hg.block k (by have := hb1.size; have := hb2.size; omega) (fun e => hne e.symm), hb2.block k (by have := hb1.size; omega), hb1.block k hkl]
  have hbv : ad.vt.ownBlock ≠ some b := fun e => (h.trace.row e).ne h.blk.row (by decide) rfl
  have B3 : Blk w3 b 75 (wdCells ad t) := ⟨(keep3 b h.ob hbv).trans h.blk.heap⟩
  have C34 : Only b w3 (w3.setCell ⟨b, 9, none⟩ v) := Only.setCell w3 ⟨b, 9, none⟩ v
  have C04 : Chg O w (w3.setCell ⟨b, 9, none⟩ v) := C03.trans (Chg.of_only (S := O) C34 h.ob) (fun _ _ h => h)
  have C14 : Chg O w1 (w3.setCell ⟨b, 9, none⟩ v) := C13.trans (Chg.of_only (S := O) C34 h.ob) (fun _ _ h => h)
  have keep4 : ∀ k, O k → ad.vt.ownBlock ≠ some k → k ≠ b → (w3.setCell ⟨b, 9, none⟩ v).heap[k]? = w.heap[k]? := fun k hk hne hb => (C34.block k hb).trans (keep3 k hk hne)
  have hv3 : ∀ g, v.ownBlock = some g → IsRow w3 61 g := fun g hg => by
    rcases hown.2 with ⟨rfl, _⟩ | ⟨g', cap, cur, rfl, _, hh, _⟩
    · cases hg
    · obtain rfl : g' = g := Option.some.inj hg
      exact ⟨_, hh⟩
  have hnew : ∀ k, noteO O v k → O k ∨ w1.heap.size ≤ k := fun k hk => by
    rcases hk with h1 | h1
    · exact .inl h1
    · rcases hloc with e | e
      · exact .inl (h.trace.mine k (e ▸ h1))
      · rw [e] at h1
        have := Option.some.inj h1
        right; rw [← this]; exact hb2.size
  have NX : Nx w O (w3.setCell ⟨b, 9, none⟩ v) (noteO O v) := by
    refine ⟨C04, fun k hk => .inl hk, fun k hk => (hnew k hk).imp id (fun h2 => Nat.le_trans hb1.size h2), fun k hk => ?_⟩
    rcases hk with h1 | h1
    · exact Nat.lt_of_lt_of_le (hOlt k h1) C04.size
    · obtain ⟨cs, hh⟩ := hv3 k h1
      have := (Array.getElem?_eq_some_iff.1 hh).1
      simpa [World.setCell] using this
  have hM1 : ∀ k, Or2 M (noteO O v) k → M k ∨ w1.heap.size ≤ k := fun k hk => by
    rcases hk with h1 | h1
    · exact .inl h1
    · exact (hnew k h1).imp (h.sub k) id
  have hM0 : ∀ k, Or2 M (noteO O v) k → M k ∨ w.heap.size ≤ k := or2_new h.sub NX
  refine ⟨B3, ⟨fun k hk => .inr hk, or2_lt h.lt NX, .inl h.ob, ?_, ?_, ?_, ?_, ?_, ?_, h.big, h.pow, h.num, h.read, h.two⟩, NX⟩
  · exact B3.set 9 v
  · refine h.slots.stay (fun k hk => .inl hk) (fun k hk hkk => keep4 k hk (fun e => ?_) ?_)
    · rcases hkk with h1 | h1
      · exact h1.ne (h.trace.row e) rfl
      · exact h1.ne (h.trace.row e) (by decide) rfl
    · rcases hkk with h1 | h1
      · exact h1.ne h.blk.row
      · exact h1.ne h.blk.row (by decide)
  · exact h.lies.stay (fun k hk => .inl hk) (fun k hk hkk => keep4 k hk (fun e => hkk.ne (h.trace.row e) rfl) (hkk.ne h.blk.row)) C04 h.sub hM0
  · exact h.seal0.chg C04 h.sub hM0
  · exact h.seal1.chg C04 h.sub hM0
  · obtain ⟨A2, c2, e2, hbs⟩ := BsM.of_own (M := M) hrow h.lt hn
    obtain ⟨rfl, rfl⟩ : A2 = A ∧ c2 = c := by injection e2 with e3 e4 e5; exact ⟨e3.symm, e5.symm⟩
    refine ⟨?_, fun g hg => .inr hg, ?_⟩
    · simp only [List.length_append, List.length_singleton, trCells_append]
      have : trCells [(x.kind, x.pl, x.slot, A2, n, c2)] = hd4 (x.kind, x.pl, x.slot, A2, n, c2) := by simp [trCells]
      rw [this]
      exact own4_stay hown (fun g hg => C34.block g ((hv3 g hg).ne B3.row (by decide)))
    · exact (h.trace.heads.chg C04 h.sub hM0).snoc ⟨hk, rfl, rfl, rfl, hbs.chg C14 h.sub hM1⟩

set_option maxRecDepth 100000 in
set_option maxHeartbeats 4000000 in
theorem note_any {O M : Nat → Prop} {b : Nat} {ad : Ad} {t : Wd} {p : Int × Int → Option Nat} {L : List Hd4} {w : World} (h : Parts w O M b ad t p L) (x : Tr) (hk : TrOk x) (A : Option Addr) (n c : Nat) (ha : Bs w w.heap.size A n c x.bytes) (hn : n ≤ 4294967296) (hlen : t.tr.length ≤ 1000000) :
    Calls Try.prog 34 #[.pointer (some ⟨b, 0, none⟩), .int .i64 x.kind, .int .i64 x.pl, .int .i64 x.slot, .slice A n c] w fun e w' => e = .returned (.tuple #[]) ∧
      ∃ ad' L' O', Parts w' O' (Or2 M O') b ad' { t with tr := t.tr ++ [x] } p L' ∧ Nx w O w' O' := by
  have hP0 := h.below (Below.refl w.heap.size w).drew
  have hA0 : Bs w.drew w.drew.heap.size A n c x.bytes := ha.drew
  have hN0 : Nx w O w.drew O := Nx.same (Chg.drew0 O w) (fun k hk => h.lt k (h.sub k hk))
  go_enter Try.func34, Try.ntmps34
  go_wp2_with fail
  clear h ha
  refine wp_region_any (by kernel_rfl) ?_
  change wpAny _ _ _ _ _ _ _ w.drew
  generalize w.drew = wS at *
  have HP : Kp _ := ⟨hP0⟩
  have HA : Kp _ := ⟨hA0⟩
  have HN : Kp _ := ⟨hN0⟩
  have hb0 : Below wS.heap.size wS wS := Below.refl _ _
  have HX : Kp (∀ W, Below wS.heap.size wS W → W.cell? ⟨b, 9, none⟩ = some ad.vt) := ⟨fun W hW => by rw [(hP0.blk.below hW hP0.blk.lt).cell? 9]; rfl⟩
  clear hP0 hA0 hN0
  refine wpAny_take (i := 0) (oi := ⟨some 10, _, _, _, _, _⟩) (v := ?_) rfl (by kernel_rfl) (by kernel_rfl) (by kernel_rfl) (fun _ _ _ h => h) (Or.inl ⟨by rfl, by intro w; go_simp; try rfl⟩) ?_
  try simp only [Act.put, List.setIfInBounds_toArray, List.set_cons_zero, List.set_cons_succ]
  refine wpAny_take (i := 1) (oi := ⟨some 11, _, _, _, _, _⟩) (v := ?_) rfl (by kernel_rfl) (by kernel_rfl) (by kernel_rfl) (fun _ _ _ h => h) (Or.inl ⟨by rfl, by intro w; go_simp; try rfl⟩) ?_
  try simp only [Act.put, List.setIfInBounds_toArray, List.set_cons_zero, List.set_cons_succ]
  refine wpAny_take (i := 2) (oi := ⟨some 12, _, _, _, _, _⟩) (v := ?_) rfl (by kernel_rfl) (by kernel_rfl) (by kernel_rfl) (fun _ _ _ h => h) (Or.inl ⟨by rfl, by intro w; go_simp; try rfl⟩) ?_
  try simp only [Act.put, List.setIfInBounds_toArray, List.set_cons_zero, List.set_cons_succ]
  refine wpAny_take (i := 3) (oi := ⟨some 13, _, _, _, _, _⟩) (v := ?_) rfl (by kernel_rfl) (by kernel_rfl) (by kernel_rfl) (fun _ _ _ h => h) (Or.inl ⟨by rfl, by intro w; go_simp; try rfl⟩) ?_
  try simp only [Act.put, List.setIfInBounds_toArray, List.set_cons_zero, List.set_cons_succ]
  refine wpAny_take (i := 5) (oi := ⟨some 15, _, _, _, _, _⟩) (v := ?_) rfl (by kernel_rfl) (by kernel_rfl) (by kernel_rfl) (fun _ _ _ h => h) (Or.inl ⟨by rfl, by intro w; go_simp; try rfl⟩) ?_
  try simp only [Act.put, List.setIfInBounds_toArray, List.set_cons_zero, List.set_cons_succ]
  refine wpAny_take (i := 6) (oi := ⟨some 16, _, _, _, _, _⟩) (v := ?_) rfl (by kernel_rfl) (by kernel_rfl) (by kernel_rfl) (fun _ _ _ h => h) (Or.inl ⟨by rfl, by intro w; go_simp; try rfl⟩) ?_
  try simp only [Act.put, List.setIfInBounds_toArray, List.set_cons_zero, List.set_cons_succ]
  refine wpAny_take (i := 7) (oi := ⟨some 17, _, _, _, _, _⟩) (v := ?_) rfl (by kernel_rfl) (by kernel_rfl) (by kernel_rfl) (fun _ _ _ h => h) (Or.inl ⟨by rfl, by intro w; go_simp; try rfl⟩) ?_
  try simp only [Act.put, List.setIfInBounds_toArray, List.set_cons_zero, List.set_cons_succ]
  refine wpAny_take (i := 8) (oi := ⟨some 18, _, _, _, _, _⟩) (v := ?_) rfl (by kernel_rfl) (by kernel_rfl) (by kernel_rfl) (fun _ _ _ h => h) (Or.inl ⟨by rfl, by intro w; go_simp; try rfl⟩) ?_
  try simp only [Act.put, List.setIfInBounds_toArray, List.set_cons_zero, List.set_cons_succ]
  refine wpAny_ready (rs := [4, 9]) (by kernel_rfl) (by simp) ?_
  refine AllReady.cons (o := ⟨some 14, _, _, _, _, _⟩) rfl (fun K hK => ?_) (AllReady.cons (o := ⟨some 19, _, _, _, _, _⟩) rfl (fun K hK => ?_) AllReady.nil)
  · have c9 := HX.out wS hb0
    go_simp
    refine hK _ _ ?_
    clear hK K c9
    try simp only [Act.put, List.setIfInBounds_toArray, List.set_cons_zero, List.set_cons_succ]
    refine wpAny_ready (rs := [9]) (by kernel_rfl) (by simp) ?_
    refine AllReady.cons (o := ⟨some 19, _, _, _, _, _⟩) rfl (fun K hK => ?_) AllReady.nil
    go_simp
    refine (traced_any x hk A n c wS HA.out hn).mono ?_
    rintro e w62 ⟨A', c', rfl, ho', hb0'⟩
    replace hb0 := hb0'
    have HO : Kp _ := ⟨And.intro ho' hb0'⟩
    clear ho' hb0'
    simp only [hd4]
    refine hK _ _ ?_
    clear hK K
    try simp only [Act.put, List.setIfInBounds_toArray, List.set_cons_zero, List.set_cons_succ]
    refine wpAny_ready (rs := [10]) (by kernel_rfl) (by simp) ?_
    refine AllReady.cons (o := ⟨some 20, _, _, _, _, _⟩) rfl (fun K hK => ?_) AllReady.nil
    have HB2 : Kp _ := ⟨And.intro (Blk.new w62 61 (hd4 (x.kind, x.pl, x.slot, A', n, c'))) ((Below.refl w62.heap.size w62).alloc (Nat.le_refl _) (.cells (hd4 (x.kind, x.pl, x.slot, A', n, c')).toArray 61))⟩
    have hgs : w62.heap.size = w62.heap.size := rfl
    generalize hgg : w62.heap.size = g2 at HB2 ⊢
    simp only [hd4] at HB2
    go_simp
    try rw [hgg]
    refine hK _ _ ?_
    clear hK K
    try simp only [Act.put, List.setIfInBounds_toArray, List.set_cons_zero, List.set_cons_succ]
    replace hb0 := hb0.trans (HB2.out.2.mono (by rw [← hgg]; exact hb0.size))
    generalize w62.alloc (.cells #[.int .i64 x.kind, .int .i64 x.pl, .int .i64 x.slot, .slice A' n c'] 61) = w63 at *
    refine wpAny_ready (rs := [11]) (by kernel_rfl) (by simp) ?_
    refine AllReady.cons (o := ⟨some 21, _, _, _, _, _⟩) rfl (fun K hK => ?_) AllReady.nil
    refine step_appT rfl (.tmp 14) (.tmp 20) rfl ad.vt t.tr.length L rfl (HP.out.trace.later hb0) (x.kind, x.pl, x.slot, A', n, c') g2 rfl HB2.out.1 hlen ?_
    intro v3 w3 hown3 hg3 hloc3
    obtain ⟨A3, n3, c3, rfl⟩ := own_slice hown3
    have HC : Kp _ := ⟨note_parts HP.out hk HO.out.2 HO.out.1 hn (by rw [hgg]; exact HB2.out.2) hown3 hg3 hloc3⟩
    clear hown3 hg3 hloc3 HB2
    have c9 : w3.cell? ⟨b, 9, none⟩ = some ad.vt := by rw [HC.out.1.cell? 9]; rfl
    have f9 := HC.out.1.frozen 9
    refine hK _ _ ?_
    clear hK K
    try simp only [Act.put, List.setIfInBounds_toArray, List.set_cons_zero, List.set_cons_succ]
    refine wpAny_take (i := 12) (oi := ⟨some 22, _, _, _, _, _⟩) (v := ?_) rfl (by kernel_rfl) (by kernel_rfl) (by kernel_rfl) (fun _ _ _ h => h) (Or.inl ⟨by rfl, by intro w; go_simp; try rfl⟩) ?_
    try simp only [Act.put, List.setIfInBounds_toArray, List.set_cons_zero, List.set_cons_succ]
    refine wpAny_take (i := 13) (oi := ⟨some 23, _, _, _, _, _⟩) (v := ?_) rfl (by kernel_rfl) (by kernel_rfl) (by kernel_rfl) (fun _ _ _ h => h) (Or.inl ⟨by rfl, by intro w; go_simp; try rfl⟩) ?_
    try simp only [Act.put, List.setIfInBounds_toArray, List.set_cons_zero, List.set_cons_succ]
    refine wpAny_ready (rs := [14]) (by kernel_rfl) (by simp) ?_
    refine AllReady.cons (o := ⟨none, _, _, _, _, _⟩) rfl (fun K hK => ?_) AllReady.nil
    go_simp
    refine hK _ _ ?_
    clear hK K c9 f9
    try simp only [Act.put]
    refine wpAny_done (by kernel_rfl) ?_ _
    go_wp2
    go_end0
    exact ⟨rfl, _, _, _, HC.out.2.1, HN.out.trans HC.out.2.2⟩
  · go_simp
    refine (traced_any x hk A n c wS HA.out hn).mono ?_
    rintro e w66 ⟨A', c', rfl, ho', hb0'⟩
    replace hb0 := hb0'
    have HO : Kp _ := ⟨And.intro ho' hb0'⟩
    clear ho' hb0'
    simp only [hd4]
    refine hK _ _ ?_
    clear hK K
    try simp only [Act.put, List.setIfInBounds_toArray, List.set_cons_zero, List.set_cons_succ]
    refine wpAny_ready (rs := [4, 10]) (by kernel_rfl) (by simp) ?_
    refine AllReady.cons (o := ⟨some 14, _, _, _, _, _⟩) rfl (fun K hK => ?_) (AllReady.cons (o := ⟨some 20, _, _, _, _, _⟩) rfl (fun K hK => ?_) AllReady.nil)
    · have c9 := HX.out w66 hb0
      go_simp
      refine hK _ _ ?_
      clear hK K c9
      try simp only [Act.put, List.setIfInBounds_toArray, List.set_cons_zero, List.set_cons_succ]
      refine wpAny_ready (rs := [10]) (by kernel_rfl) (by simp) ?_
      refine AllReady.cons (o := ⟨some 20, _, _, _, _, _⟩) rfl (fun K hK => ?_) AllReady.nil
      have HB2 : Kp _ := ⟨And.intro (Blk.new w66 61 (hd4 (x.kind, x.pl, x.slot, A', n, c'))) ((Below.refl w66.heap.size w66).alloc (Nat.le_refl _) (.cells (hd4 (x.kind, x.pl, x.slot, A', n, c')).toArray 61))⟩
      have hgs : w66.heap.size = w66.heap.size := rfl
      generalize hgg : w66.heap.size = g2 at HB2 ⊢
      simp only [hd4] at HB2
      go_simp
      try rw [hgg]
      refine hK _ _ ?_
      clear hK K
      try simp only [Act.put, List.setIfInBounds_toArray, List.set_cons_zero, List.set_cons_succ]
      replace hb0 := hb0.trans (HB2.out.2.mono (by rw [← hgg]; exact hb0.size))
      generalize w66.alloc (.cells #[.int .i64 x.kind, .int .i64 x.pl, .int .i64 x.slot, .slice A' n c'] 61) = w68 at *
      refine wpAny_ready (rs := [11]) (by kernel_rfl) (by simp) ?_
      refine AllReady.cons (o := ⟨some 21, _, _, _, _, _⟩) rfl (fun K hK => ?_) AllReady.nil
      refine step_appT rfl (.tmp 14) (.tmp 20) rfl ad.vt t.tr.length L rfl (HP.out.trace.later hb0) (x.kind, x.pl, x.slot, A', n, c') g2 rfl HB2.out.1 hlen ?_
      intro v3 w3 hown3 hg3 hloc3
      obtain ⟨A3, n3, c3, rfl⟩ := own_slice hown3
      have HC : Kp _ := ⟨note_parts HP.out hk HO.out.2 HO.out.1 hn (by rw [hgg]; exact HB2.out.2) hown3 hg3 hloc3⟩
      clear hown3 hg3 hloc3 HB2
      have c9 : w3.cell? ⟨b, 9, none⟩ = some ad.vt := by rw [HC.out.1.cell? 9]; rfl
      have f9 := HC.out.1.frozen 9
      refine hK _ _ ?_
      clear hK K
      try simp only [Act.put, List.setIfInBounds_toArray, List.set_cons_zero, List.set_cons_succ]
      refine wpAny_take (i := 12) (oi := ⟨some 22, _, _, _, _, _⟩) (v := ?_) rfl (by kernel_rfl) (by kernel_rfl) (by kernel_rfl) (fun _ _ _ h => h) (Or.inl ⟨by rfl, by intro w; go_simp; try rfl⟩) ?_
      try simp only [Act.put, List.setIfInBounds_toArray, List.set_cons_zero, List.set_cons_succ]
      refine wpAny_take (i := 13) (oi := ⟨some 23, _, _, _, _, _⟩) (v := ?_) rfl (by kernel_rfl) (by kernel_rfl) (by kernel_rfl) (fun _ _ _ h => h) (Or.inl ⟨by rfl, by intro w; go_simp; try rfl⟩) ?_
      try simp only [Act.put, List.setIfInBounds_toArray, List.set_cons_zero, List.set_cons_succ]
      refine wpAny_ready (rs := [14]) (by kernel_rfl) (by simp) ?_
      refine AllReady.cons (o := ⟨none, _, _, _, _, _⟩) rfl (fun K hK => ?_) AllReady.nil
      go_simp
      refine hK _ _ ?_
      clear hK K c9 f9
      try simp only [Act.put]
      refine wpAny_done (by kernel_rfl) ?_ _
      go_wp2
      go_end0
      exact ⟨rfl, _, _, _, HC.out.2.1, HN.out.trans HC.out.2.2⟩
    · have HB2 : Kp _ := ⟨And.intro (Blk.new w66 61 (hd4 (x.kind, x.pl, x.slot, A', n, c'))) ((Below.refl w66.heap.size w66).alloc (Nat.le_refl _) (.cells (hd4 (x.kind, x.pl, x.slot, A', n, c')).toArray 61))⟩
      have hgs : w66.heap.size = w66.heap.size := rfl
      generalize hgg : w66.heap.size = g2 at HB2 ⊢
      simp only [hd4] at HB2
      go_simp
      try rw [hgg]
      refine hK _ _ ?_
      clear hK K
      try simp only [Act.put, List.setIfInBounds_toArray, List.set_cons_zero, List.set_cons_succ]
      replace hb0 := hb0.trans (HB2.out.2.mono (by rw [← hgg]; exact hb0.size))
      generalize w66.alloc (.cells #[.int .i64 x.kind, .int .i64 x.pl, .int .i64 x.slot, .slice A' n c'] 61) = w71 at *
      refine wpAny_ready (rs := [4]) (by kernel_rfl) (by simp) ?_
      refine AllReady.cons (o := ⟨some 14, _, _, _, _, _⟩) rfl (fun K hK => ?_) AllReady.nil
      have c9 := HX.out w71 hb0
      go_simp
      refine hK _ _ ?_
      clear hK K c9
      try simp only [Act.put, List.setIfInBounds_toArray, List.set_cons_zero, List.set_cons_succ]
      refine wpAny_ready (rs := [11]) (by kernel_rfl) (by simp) ?_
      refine AllReady.cons (o := ⟨some 21, _, _, _, _, _⟩) rfl (fun K hK => ?_) AllReady.nil
      refine step_appT rfl (.tmp 14) (.tmp 20) rfl ad.vt t.tr.length L rfl (HP.out.trace.later hb0) (x.kind, x.pl, x.slot, A', n, c') g2 rfl HB2.out.1 hlen ?_
      intro v3 w3 hown3 hg3 hloc3
      obtain ⟨A3, n3, c3, rfl⟩ := own_slice hown3
      have HC : Kp _ := ⟨note_parts HP.out hk HO.out.2 HO.out.1 hn (by rw [hgg]; exact HB2.out.2) hown3 hg3 hloc3⟩
      clear hown3 hg3 hloc3 HB2
      have c9 : w3.cell? ⟨b, 9, none⟩ = some ad.vt := by rw [HC.out.1.cell? 9]; rfl
      have f9 := HC.out.1.frozen 9
      refine hK _ _ ?_
      clear hK K
      try simp only [Act.put, List.setIfInBounds_toArray, List.set_cons_zero, List.set_cons_succ]
      refine wpAny_take (i := 12) (oi := ⟨some 22, _, _, _, _, _⟩) (v := ?_) rfl (by kernel_rfl) (by kernel_rfl) (by kernel_rfl) (fun _ _ _ h => h) (Or.inl ⟨by rfl, by intro w; go_simp; try rfl⟩) ?_
      try simp only [Act.put, List.setIfInBounds_toArray, List.set_cons_zero, List.set_cons_succ]
      refine wpAny_take (i := 13) (oi := ⟨some 23, _, _, _, _, _⟩) (v := ?_) rfl (by kernel_rfl) (by kernel_rfl) (by kernel_rfl) (fun _ _ _ h => h) (Or.inl ⟨by rfl, by intro w; go_simp; try rfl⟩) ?_
      try simp only [Act.put, List.setIfInBounds_toArray, List.set_cons_zero, List.set_cons_succ]
      refine wpAny_ready (rs := [14]) (by kernel_rfl) (by simp) ?_
      refine AllReady.cons (o := ⟨none, _, _, _, _, _⟩) rfl (fun K hK => ?_) AllReady.nil
      go_simp
      refine hK _ _ ?_
      clear hK K c9 f9
      try simp only [Act.put]
      refine wpAny_done (by kernel_rfl) ?_ _
      go_wp2
      go_end0
      exact ⟨rfl, _, _, _, HC.out.2.1, HN.out.trans HC.out.2.2⟩
end Go.Proofs.Ytalnbomnmmefgaa
