/- Lists of what is traced, and the contract of World's Trace. -/
import Derived.Test.YtalnbomnmmefgaaSt
import Derived.Deep.LoopGhost
import Derived.OwnWalk
namespace Go.Proofs.Ytalnbomnmmefgaa
open Go.RowKit

structure TrAt (w : World) (b o : Nat) (t : Tr) (A : Option Addr) (n c : Nat) : Prop where
  kind : w.cell? ⟨b, o, none⟩ = some (.int .i64 t.kind)
  pl : w.cell? ⟨b, o + 1, none⟩ = some (.int .i64 t.pl)
  slot : w.cell? ⟨b, o + 2, none⟩ = some (.int .i64 t.slot)
  sli : w.cell? ⟨b, o + 3, none⟩ = some (.slice A n c)
  bytes : Bs w w.heap.size A n c t.bytes
/-- A slice of n of room c at A reads as what is traced. -/
structure Ts (w : World) (A : Option Addr) (n c : Nat) (tr : List Tr) : Prop where
  len : tr.length = n
  cap : n ≤ c
  max : c ≤ maxLen
  nil : A = none → c = 0
  cells : 0 < n → ∃ b o, A = some ⟨b, o, none⟩ ∧ b < w.heap.size ∧ ∀ j (h : j < tr.length), ∃ A' n' c', TrAt w b (o + j * 4) tr[j] A' n' c'
/-- .. and lies apart from M -/
structure TsM (w : World) (M : Nat → Prop) (A : Option Addr) (n c : Nat) (tr : List Tr) : Prop where
  len : tr.length = n
  cap : n ≤ c
  max : c ≤ maxLen
  nil : A = none → c = 0
  cells : 0 < n → ∃ b o, A = some ⟨b, o, none⟩ ∧ b < w.heap.size ∧ ¬ M b ∧ ∀ j (h : j < tr.length), ∃ A' n' c', TrAt w b (o + j * 4) tr[j] A' n' c' ∧ BsM w M A' n' c' tr[j].bytes
section
variable {w w' u : World} {A : Option Addr} {n c : Nat} {tr : List Tr} {M : Nat → Prop}
theorem TsM.seen (h : TsM u M A n c tr) (hc : Chg M u w) : Ts w A n c tr :=
  ⟨h.len, h.cap, h.max, h.nil, fun h0 => by
    obtain ⟨b, o, hA, hb, hM, hcl⟩ := h.cells h0
    refine ⟨b, o, hA, Nat.lt_of_lt_of_le hb hc.size, fun j hj => ?_⟩
    obtain ⟨A', n', c', h1, h2⟩ := hcl j hj
    have hk : ∀ x, w.cell? ⟨b, x, none⟩ = u.cell? ⟨b, x, none⟩ := fun x => World.cell?_of_block (w := u) (hc.block b hb hM)
    exact ⟨A', n', c', (hk _).trans h1.kind, (hk _).trans h1.pl, (hk _).trans h1.slot, (hk _).trans h1.sli, (h2.chg (M' := M) hc (fun _ h => h) (fun _ h => .inl h)).bs⟩⟩
theorem Ts.le (h : Ts w A n c tr) : n ≤ 9223372036854775807 := by have := h.cap; have := h.max; simp only [maxLen] at this; omega
theorem Ts.below (h : Ts w A n c tr) (hb : Below w.heap.size w w') : Ts w' A n c tr :=
  ⟨h.len, h.cap, h.max, h.nil, fun h0 => by
    obtain ⟨b, o, hA, hbl, hcl⟩ := h.cells h0
    refine ⟨b, o, hA, Nat.lt_of_lt_of_le hbl hb.size, fun j hj => ?_⟩
    obtain ⟨A', n', c', h1⟩ := hcl j hj
    have hk : ∀ x, w'.cell? ⟨b, x, none⟩ = w.cell? ⟨b, x, none⟩ := fun x => hb.cell hbl
    exact ⟨A', n', c', (hk _).trans h1.kind, (hk _).trans h1.pl, (hk _).trans h1.slot, (hk _).trans h1.sli, (h1.bytes.below hb).more hb.size⟩⟩
theorem Ts.at (h : Ts w A n c tr) {i : Nat} (hi : i < n) : ∃ b o A' n' c', A = some ⟨b, o, none⟩ ∧ TrAt w b (o + i * 4) (tr[i]'(by have := h.len; omega)) A' n' c' := by
  obtain ⟨b, o, hA, hb, hc⟩ := h.cells (by omega)
  obtain ⟨A', n', c', h1⟩ := hc i (by have := h.len; omega)
  exact ⟨b, o, A', n', c', hA, h1⟩
/-- the first k of them -/
theorem Ts.cut (h : Ts w A n c tr) {k : Nat} (hk : k ≤ n) : Ts w A k c (tr.take k) := by
  have hl := h.len
  refine ⟨by simp; omega, by have := h.cap; omega, h.max, h.nil, fun h0 => ?_⟩
  obtain ⟨b, o, hA, hb, hc⟩ := h.cells (by omega)
  refine ⟨b, o, hA, hb, fun j hj => ?_⟩
  have hj2 : j < tr.length := by simp at hj; omega
  obtain ⟨A', n', c', h1⟩ := hc j hj2
  refine ⟨A', n', c', ?_⟩
  rw [List.getElem_take]
  exact h1
theorem tr_blk {g : Nat} {L : List Hd4} {rest : List Value} (h : Blk w g 61 (trCells L ++ rest)) {j : Nat} (hj : j < L.length) {i : Nat} (hi : i < 4) : w.cell? ⟨g, j * 4 + i, none⟩ = (hd4 L[j])[i]? := by
  rw [h.cell? (j * 4 + i), List.getElem?_append_left (by rw [trCells_length]; omega)]
  exact trCells_at L j hj i hi
theorem tr_own {base : Nat} {v : Value} {m : Nat} {L : List Hd4} (h : w.ownsRow base 61 4 v m (trCells L)) {j : Nat} (hj : j < L.length) : ∃ g cp, v = .slice (some ⟨g, 0, none⟩) m cp ∧ g < w.heap.size ∧ ∀ i, i < 4 → w.cell? ⟨g, j * 4 + i, none⟩ = (hd4 L[j])[i]? := by
  have hl := h.1
  rw [trCells_length] at hl
  rcases h.2 with ⟨rfl, rfl⟩ | ⟨g, cap, cur, rfl, _, hh, _, _, hs, ht⟩
  · omega
  · refine ⟨g, cap, rfl, (Array.getElem?_eq_some_iff.1 hh).1, fun i hi => ?_⟩
    rw [cell_of_row w g (j * 4 + i) cur _ (0, 0) hh, ← trCells_at L j hj i hi, ← ht, List.getElem?_take, if_pos (by omega)]
    simp
theorem full4 {base g m : Nat} {e : TypeId} {xs : List Value} (h : w.ownsRow base e 4 (.slice (some ⟨g, 0, none⟩) m m) m xs) : Blk w g e xs ∧ xs.length = m * 4 := by
  refine ⟨⟨?_⟩, h.1⟩
  rcases h.2 with ⟨h', _⟩ | ⟨g', cap, cur, h', hb, hg, hnc, hcm, hcs, htake⟩
  · simp at h'
  · simp only [Value.slice.injEq, Option.some.injEq, Addr.mk.injEq, and_true, true_and] at h'
    obtain ⟨rfl, rfl⟩ := h'
    have e1 : cur.toList = xs := by
      rw [← htake, List.take_of_length_le]
      simp [hcs]
    rw [← e1]
    simpa using hg
/-- the traced things done so far: the row under way -/
structure TcW (w0 w : World) (M : Nat → Prop) (g i m : Nat) (tr : List Tr) : Prop where
  is : ∃ L rest, Blk w g 61 (trCells L ++ rest) ∧ L.length = i ∧ rest.length = (m - i) * 4 ∧ TrL w M L (tr.take i)
  below : Below w0.heap.size w0 w
theorem TcW.store {w0 w1 : World} {g i m : Nat} {tr : List Tr} (h : TcW w0 w M g i m tr) (hi : i < tr.length) (him : i < m) (hg : w0.heap.size ≤ g) (hb : Below w.heap.size w w1) {Av : Option Addr} {nv cv : Nat} (hB : BsM w1 M Av nv cv tr[i].bytes) (hok : TrOk tr[i]) (hMg : M g) :
    ∃ cs, Blk w1 g 61 cs ∧ i * 4 + 4 ≤ cs.length ∧ ∀ w2, Blk w2 g 61 (cs.take (i * 4) ++ hd4 (tr[i].kind, tr[i].pl, tr[i].slot, Av, nv, cv) ++ cs.drop (i * 4 + 4)) → Only g w1 w2 → TcW w0 w2 M g (i + 1) m tr := by
  obtain ⟨L, rest, h1, h2, h3, h4⟩ := h.is
  have hgl := h1.lt
  refine ⟨trCells L ++ rest, h1.below hb hgl, by rw [List.length_append, trCells_length, h2, h3]; omega, fun w2 hk ho => ⟨⟨L ++ [(tr[i].kind, tr[i].pl, tr[i].slot, Av, nv, cv)], rest.drop 4, ?_, by simp [h2], by rw [List.length_drop, h3]; omega, ?_⟩, h.below.trans ((hb.mono h.below.size).trans (ho.below hg))⟩⟩
  · have hlen : (trCells L).length = i * 4 := by rw [trCells_length, h2]
    rw [List.take_append, hlen, Nat.sub_self, List.take_zero, List.append_nil, List.take_of_length_le (by omega), List.drop_append, hlen, List.drop_of_length_le (by omega), List.nil_append, show i * 4 + 4 - i * 4 = 4 by omega] at hk
    rw [trCells_append]
    simpa [trCells] using hk
  · have C : Chg (fun k => k = g) w1 w2 := Chg.of_only ho rfl
    have hS : ∀ k, k = g → M k := fun k e => e ▸ hMg
    rw [List.take_succ_eq_append_getElem hi]
    exact ((h4.chg (M' := M) (S := fun _ => False) (Chg.of_below _ hb) (fun _ h => h.elim) (fun _ h => .inl h)).chg (M' := M) C hS (fun _ h => .inl h)).snoc ⟨hok, rfl, rfl, rfl, hB.chg C hS (fun _ h => .inl h)⟩
theorem TcW.below' {w0 w1 : World} {g i m : Nat} {tr : List Tr} (h : TcW w0 w M g i m tr) (hb : Below w.heap.size w w1) : TcW w0 w1 M g i m tr := by
  obtain ⟨L, rest, h1, h2, h3, h4⟩ := h.is
  exact ⟨⟨L, rest, h1.below hb h1.lt, h2, h3, h4.chg (S := fun _ => False) (Chg.of_below _ hb) (fun _ h => h.elim) (fun _ h => .inl h)⟩, h.below.trans (hb.mono h.below.size)⟩
theorem BsM.weak {M0 : Nat → Prop} {l : List UInt8} (h : BsM w M A n c l) (hM : ∀ k, M0 k → M k) : BsM w M0 A n c l := ⟨h.bs, fun ad hA h0 hm => h.apart ad hA h0 (hM _ hm), h.fit⟩
/-- all are done -/
theorem TcW.done {w0 : World} {M0 : Nat → Prop} {g m : Nat} {tr : List Tr} (h : TcW w0 w M g m m tr) (hm : tr.length = m) (hM : ∀ k, M0 k → M k) (hg : ¬ M0 g) (hmx : m ≤ 1000000) : TsM w M0 (some ⟨g, 0, none⟩) m m tr := by
  obtain ⟨L, rest, h1, h2, h3, h4⟩ := h.is
  rw [List.take_of_length_le (by omega)] at h4
  refine ⟨hm, Nat.le_refl _, by simp only [maxLen]; omega, (fun h => by cases h), fun _ => ⟨g, 0, rfl, h1.lt, hg, fun j hj => ?_⟩⟩
  have hjL : j < L.length := by omega
  have e := h4.each j hjL
  refine ⟨L[j].2.2.2.1, L[j].2.2.2.2.1, L[j].2.2.2.2.2, ⟨?_, ?_, ?_, ?_, e.bytes.bs⟩, e.bytes.weak hM⟩
  · have k := tr_blk h1 hjL (i := 0) (by omega)
    rw [Nat.zero_add]
    rw [Nat.add_zero] at k
    rw [k, ← e.kind]; rfl
  · have k := tr_blk h1 hjL (i := 1) (by omega)
    rw [Nat.zero_add, k, ← e.pl]; rfl
  · have k := tr_blk h1 hjL (i := 2) (by omega)
    rw [Nat.zero_add, k, ← e.slot]; rfl
  · have k := tr_blk h1 hjL (i := 3) (by omega)
    rw [Nat.zero_add, k]; rfl
end
set_option maxRecDepth 100000 in
set_option maxHeartbeats 4000000 in
theorem trace_any {O M : Nat → Prop} {b : Nat} {ad : Ad} {t : Wd} {p : Int × Int → Option Nat} {L : List Hd4} {w : World} (h : Parts w O M b ad t p L) (hlen : t.tr.length ≤ 1000000) :
    Calls Try.prog 27 #[.pointer (some ⟨b, 0, none⟩)] w fun e w' => ∃ A n c, e = .returned (.slice A n c) ∧ Below w.heap.size w w' ∧ TsM w' M A n c t.tr := by
  obtain ⟨n, hn⟩ : ∃ n, n = t.tr.length := ⟨_, rfl⟩
  have HP : Kp _ := ⟨h⟩
  have hown := h.trace.own
  rw [← hn] at hown hlen
  obtain ⟨At, nt, ct, hvt⟩ := own_slice hown
  obtain rfl : nt = n := by
    rcases hown.2 with ⟨h1, h2⟩ | ⟨_, _, _, h1, _⟩
    · rw [hvt] at h1; injection h1 with _ h3 _; omega
    · rw [hvt] at h1; injection h1
  have c9 : w.cell? ⟨b, 9, none⟩ = some (.slice At nt ct) := by rw [h.blk.cell? 9, ← hvt]; rfl
  obtain ⟨i, hi, hz0, hz1, hz2⟩ := info_parts infoTr
  have HI : Kp (i.bytes * nt ≤ 281474976710656) := ⟨by rw [hz2]; omega⟩
  have HIn : Kp _ := ⟨And.intro hi (And.intro hz0 hz1)⟩
  have HZl : Kp (zeroTr.length = 4) := ⟨rfl⟩
  have HN : Kp (t.tr.length = nt) := ⟨hn.symm⟩
  have HLl : Kp (L.length = nt) := ⟨by rw [h.trace.heads.len]; exact hn.symm⟩
  have HV : Kp _ := ⟨hvt⟩
  clear h hown hvt hi hz0 hz1 hz2 hn
  go_enter Try.func27, Try.ntmps27
  go_wp2_with (with_reducible refine wpList_make_full (o := ⟨some 13, _, _, _, _, _⟩) w rfl (.tmp 12) (.tmp 12) 40 rfl w.heap.size 61 i (.agg zeroTr.toArray) 4 Try.underlying40 HIn.out.1 HIn.out.2.1 HIn.out.2.2 .i64 .i64 _ _ nt rfl rfl rfl rfl HI.out (by simp only [maxLen]; omega) (Nat.le_refl _) ?_)
  intro w1 hown1 hg1
  have hb1 : Below w.heap.size w w1 := (Below.refl _ _).grown hg1 (Nat.le_refl _) (by simp)
  obtain ⟨hk1, hl1⟩ := full4 hown1
  have H1 : Kp (TcW w w1 (fun k => M k ∨ k = w.heap.size) w.heap.size 0 nt t.tr) := ⟨⟨⟨[], _, by simpa [trCells] using hk1, rfl, by rw [hl1]; omega, TrL.nil _ _⟩, hb1⟩⟩
  have c91 : w1.cell? ⟨b, 9, none⟩ = some (.slice At nt ct) := by rw [← c9]; exact hb1.cell HP.out.blk.lt
  have hgl : w.heap.size < w1.heap.size := hk1.lt
  clear hown1 hg1 hb1 hk1 hl1 HI HIn
  go_wp2
  go_loopg [19] nt (fun gk v19 wr => ∃ i : Nat, i + gk = nt ∧ v19 = .int .i64 i ∧ Kp (TcW w wr (fun k => M k ∨ k = w.heap.size) w.heap.size i nt t.tr))
  case atStart => exact ⟨0, by omega, rfl, H1⟩
  case round =>
    clear H1 c91 c9
    obtain ⟨i, hi, rfl, HT⟩ := hrel
    cases gk with
    | zero =>
      have hlt : ¬ ((i : Int) < (nt : Int)) := by omega
      have HE : Kp (i = nt) := ⟨by omega⟩
      have hlen' := hlen
      go_wp2
      go_ret
      have h9 := HT.out
      rw [HE.out] at h9
      exact ⟨some ⟨w.heap.size, 0, none⟩, nt, nt, rfl, h9.below, h9.done HN.out (fun _ h => .inl h) (fun hm => by have := HP.out.lt _ hm; omega) hlen'⟩
    | succ g2 =>
      have hlt : (i : Int) < (nt : Int) := by omega
      have hin : i < nt := by omega
      have hiL : i < L.length := by rw [HLl.out]; exact hin
      have hit : i < t.tr.length := by rw [HN.out]; exact hin
      obtain ⟨gt, cp, hv, hgt, hcl⟩ := tr_own HP.out.trace.own hiL
      rw [HV.out] at hv
      have hAt : At = some ⟨gt, 0, none⟩ := by injection hv
      have he := HP.out.trace.heads.each i hiL
      have hgtw : ∀ x, wr.cell? ⟨gt, x, none⟩ = w.cell? ⟨gt, x, none⟩ := fun x => HT.out.below.cell hgt
      have q0 : wr.cell? ⟨gt, i * 4, none⟩ = some (.int .i64 (t.tr[i]'hit).kind) := by have k := hcl 0 (by omega); rw [Nat.add_zero] at k; rw [hgtw, k, ← he.kind]; rfl
      have q1 : wr.cell? ⟨gt, i * 4 + 1, none⟩ = some (.int .i64 (t.tr[i]'hit).pl) := by rw [hgtw, hcl 1 (by omega), ← he.pl]; rfl
      have q2 : wr.cell? ⟨gt, i * 4 + 2, none⟩ = some (.int .i64 (t.tr[i]'hit).slot) := by rw [hgtw, hcl 2 (by omega), ← he.slot]; rfl
      obtain ⟨Ab, nb, cb, q3, hbb⟩ : ∃ Ab nb cb, wr.cell? ⟨gt, i * 4 + 3, none⟩ = some (.slice Ab nb cb) ∧ BsM w M Ab nb cb (t.tr[i]'hit).bytes := ⟨_, _, _, by rw [hgtw, hcl 3 (by omega)]; rfl, he.bytes⟩
      have HOk : Kp (TrOk (t.tr[i]'hit)) := ⟨he.ok⟩
      have HBb : Kp _ := ⟨hbb⟩
      obtain ⟨x, hx⟩ : ∃ x, x = t.tr[i]'hit := ⟨_, rfl⟩
      rw [← hx] at q0 q1 q2 HOk HBb
      have HX : Kp (x = t.tr[i]'hit) := ⟨hx⟩
      have hgr : w.heap.size < wr.heap.size := by
        obtain ⟨_, _, h9, _⟩ := HT.out.is
        exact h9.lt
      subst hAt
      clear hcl hv he hgtw hbb hx
      go_wp2_with (with_reducible refine wpList_alloc (o := ⟨some 5, _, _, _, _, _⟩) tyTr rfl rfl ?_)
      intro w5 hk5 hb5 hs5
      have HK5 : Kp _ := ⟨And.intro hk5 hb5⟩
      have HV5 : Kp (([.int .i64 x.kind, .int .i64 x.pl, .int .i64 x.slot, .slice Ab nb cb] : List Value).length = 4) := ⟨rfl⟩
      have HO5 : Kp (∀ u ∈ ([.int .i64 x.kind, .int .i64 x.pl, .int .i64 x.slot, .slice Ab nb cb] : List Value), u.oneCell' = true) := ⟨hd4_one (x.kind, x.pl, x.slot, Ab, nb, cb)⟩
      clear hk5 hb5 hs5
      go_wp2_with (with_reducible refine wpList_storeAll (o := ⟨none, _, _, _, _, _⟩) (vs := [.int .i64 x.kind, .int .i64 x.pl, .int .i64 x.slot, .slice Ab nb cb]) rwTr rfl (.tmp 5) (.tmp 23) rfl rfl HK5.out.1 HZl.out HV5.out HO5.out rfl ?_)
      intro w6 hk6 ho6
      have hb6 : Below wr.heap.size wr w6 := HK5.out.2.trans (ho6.below (Nat.le_refl _))
      have d0 : w6.cell? ⟨wr.heap.size, 0, none⟩ = some (.int .i64 x.kind) := hk6.cell? 0
      have d1 : w6.cell? ⟨wr.heap.size, 1, none⟩ = some (.int .i64 x.pl) := hk6.cell? 1
      have d2 : w6.cell? ⟨wr.heap.size, 2, none⟩ = some (.int .i64 x.slot) := hk6.cell? 2
      have d3 : w6.cell? ⟨wr.heap.size, 3, none⟩ = some (.slice Ab nb cb) := hk6.cell? 3
      have H6 : Kp _ := ⟨HT.out.below' hb6⟩
      clear hk6 ho6 HK5 HT q0 q1 q2 q3 HV5 HO5
      go_wp2_with fail
      refine (traced_any x HOk.out Ab nb cb w6 ((HBb.out.bs.below H6.out.below).more H6.out.below.size) HBb.out.fit).mono ?_
      rintro e w7 ⟨A7, c7, rfl, ho7, hb7⟩
      have hMlt : ∀ k, (M k ∨ k = w.heap.size) → k < w6.heap.size := fun k hk => by
        rcases hk with h9 | h9
        · have := HP.out.lt k h9; have := H6.out.below.size; omega
        · have := hb6.size; omega
      obtain ⟨A8, c8, e8, hB8⟩ := BsM.of_own (M := fun k => M k ∨ k = w.heap.size) ho7 hMlt HBb.out.fit
      have e9 : A8 = A7 ∧ c8 = c7 := by injection e8 with e10 _ e11; exact ⟨e10.symm, e11.symm⟩
      rw [e9.1, e9.2] at hB8
      obtain ⟨cs, hkc, hfit, hnext⟩ := H6.out.store hit hin (Nat.le_refl _) hb7 (by rw [← HX.out]; exact hB8) (by rw [← HX.out]; exact HOk.out) (.inr rfl)
      rw [← HX.out] at hnext
      have HKc : Kp _ := ⟨hkc⟩
      have HFit : Kp _ := ⟨hfit⟩
      have HNx : Kp _ := ⟨hnext⟩
      have HV7 : Kp (([.int .i64 x.kind, .int .i64 x.pl, .int .i64 x.slot, .slice A7 nb c7] : List Value).length = 4) := ⟨rfl⟩
      have HO7 : Kp (∀ u ∈ ([.int .i64 x.kind, .int .i64 x.pl, .int .i64 x.slot, .slice A7 nb c7] : List Value), u.oneCell' = true) := ⟨hd4_one (x.kind, x.pl, x.slot, A7, nb, c7)⟩
      simp only [hd4]
      clear ho7 hb7 e8 e9 hB8 hkc hfit hnext H6 d0 d1 d2 d3 hb6
      go_wp2_with (with_reducible refine wpList_store (o := ⟨none, _, _, _, _, _⟩) (vs := [.int .i64 x.kind, .int .i64 x.pl, .int .i64 x.slot, .slice A7 nb c7]) rwTr rfl (.tmp 35) (.tmp 34) rfl rfl rfl HKc.out HV7.out HFit.out HO7.out ?_)
      intro w8 hk8 ho8
      have H8 : Kp _ := ⟨HNx.out w8 (by simpa [hd4] using hk8) ho8⟩
      clear hk8 ho8 HKc HFit HNx
      go_wp2
      go_roundg g2
      case measure => omega
      case rel => exact ⟨i + 1, by omega, by go_num, H8⟩
theorem st_trace {w0 w : World} {k b : Nat} {t : Wd} {ws : List (Nat × Wd)} {hs : List Held} {sn : List (World × (Nat → Prop))} (h : StS w0 w k ((b, t) :: ws) hs sn) (hk : k ≤ 1000000) :
    Calls Try.prog 27 #[.pointer (some ⟨b, 0, none⟩)] w fun e w' => ∃ A n c M, e = .returned (.slice A n c) ∧ StS w0 w' k ((b, t) :: ws) hs ((w', M) :: sn) ∧ TsM w' M A n c t.tr := by
  obtain ⟨M, Os, h1, h2, h3, h4, h5⟩ := h.is
  cases Os with
  | nil => exact h1.elim
  | cons O Os =>
    obtain ⟨⟨ad, p, L, hP⟩, hd, hE⟩ := h1
    refine (trace_any hP (by have := h.first.tr; show t.tr.length ≤ _; omega)).mono ?_
    rintro e w' ⟨A, n, c, rfl, hb, hT⟩
    have hlt : ∀ k, M k → k < w'.heap.size := fun k hk => Nat.lt_of_lt_of_le (h2 k hk) hb.size
    refine ⟨A, n, c, M, rfl, ⟨⟨M, O :: Os, ?_, hlt, h3, fun x hx => (h4 x hx).below hb, fun s hs => ?_⟩, h.below.trans (hb.mono h.below.size), h.small⟩, hT⟩
    · exact Each.chg (S := fun _ => False) (Chg.of_below _ hb) (fun _ h => h.elim) (fun _ h => .inl h) (fun _ h => h) hlt (fun _ _ _ h => h.elim) (show Each w M (O :: Os) ((b, t) :: ws) from ⟨⟨ad, p, L, hP⟩, hd, hE⟩)
    · rcases List.mem_cons.1 hs with rfl | hs
      · exact ⟨Chg.refl _ _, fun _ h => .inl h⟩
      · exact (h5 s hs).next (Chg.of_below (fun _ => False) hb) (fun _ h => h.elim) (fun _ h => .inl h)
end Go.Proofs.Ytalnbomnmmefgaa
