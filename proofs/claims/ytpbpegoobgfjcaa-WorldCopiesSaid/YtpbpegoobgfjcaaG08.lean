/- Lists of what is traced, and the contract of World's Trace.
   Trace of a World, as a row of its own; what Copy builds, step by step, as facts of memory.
   An array by value, indexed. No program is named here. -/
import Derived.Test.YtpbpegoobgfjcaaG07
import Derived.Deep.LoopGhost
import Derived.OwnWalk
import Derived.Test.YtpbpegoobgfjcaaG03
import Derived.Test.YtpbpegoobgfjcaaG01
import Derived.ChangeKeysEq
namespace Go.Proofs.Ytpbpegoobgfjcaa
open Go.RowKit

structure TrAt (w : World) (b o : Nat) (t : Tr) (A : Option Addr) (n c : Nat) : Prop where
  kind : w.cell? ⟨b, o, none⟩ = some (.int .i64 t.kind)
  pl : w.cell? ⟨b, o + 1, none⟩ = some (.int .i64 t.pl)
  slot : w.cell? ⟨b, o + 2, none⟩ = some (.int .i64 t.slot)
  sli : w.cell? ⟨b, o + 3, none⟩ = some (.slice A n c)
  bytes : Bs w w.heap.size A n c t.bytes
/-- A slice of n of room c at A reads as what is traced. -/
structure Ts (w : World) (A : Option Addr) (n c : Nat) (tr : List Tr) : Prop where
  len : tr.length = n
  cap : n ≤ c
  max : c ≤ maxLen
  nil : A = none → c = 0
  cells : 0 < n → ∃ b o, A = some ⟨b, o, none⟩ ∧ b < w.heap.size ∧ ∀ j (h : j < tr.length), ∃ A' n' c', TrAt w b (o + j * 4) tr[j] A' n' c'
/-- .. and lies apart from M -/
structure TsM (w : World) (M : Nat → Prop) (A : Option Addr) (n c : Nat) (tr : List Tr) : Prop where
  len : tr.length = n
  cap : n ≤ c
  max : c ≤ maxLen
  nil : A = none → c = 0
  cells : 0 < n → ∃ b o, A = some ⟨b, o, none⟩ ∧ b < w.heap.size ∧ ¬ M b ∧ ∀ j (h : j < tr.length), ∃ A' n' c', TrAt w b (o + j * 4) tr[j] A' n' c' ∧ BsM w M A' n' c' tr[j].bytes
section
variable {w w' u : World} {A : Option Addr} {n c : Nat} {tr : List Tr} {M : Nat → Prop}
theorem TsM.seen (h : TsM u M A n c tr) (hc : Chg M u w) : Ts w A n c tr :=
  ⟨h.len, h.cap, h.max, h.nil, fun h0 => by
    obtain ⟨b, o, hA, hb, hM, hcl⟩ := h.cells h0
    refine ⟨b, o, hA, Nat.lt_of_lt_of_le hb hc.size, fun j hj => ?_⟩
    obtain ⟨A', n', c', h1, h2⟩ := hcl j hj
    have hk : ∀ x, w.cell? ⟨b, x, none⟩ = u.cell? ⟨b, x, none⟩ := fun x => World.cell?_of_block (w := u) (hc.block b hb hM)
    exact ⟨A', n', c', (hk _).trans h1.kind, (hk _).trans h1.pl, (hk _).trans h1.slot, (hk _).trans h1.sli, (h2.chg (M' := M) hc (fun _ h => h) (fun _ h => .inl h)).bs⟩⟩
theorem Ts.le (h : Ts w A n c tr) : n ≤ 9223372036854775807 := by have := h.cap; have := h.max; simp only [maxLen] at this; omega
theorem Ts.below (h : Ts w A n c tr) (hb : Below w.heap.size w w') : Ts w' A n c tr :=
  ⟨h.len, h.cap, h.max, h.nil, fun h0 => by
    obtain ⟨b, o, hA, hbl, hcl⟩ := h.cells h0
    refine ⟨b, o, hA, Nat.lt_of_lt_of_le hbl hb.size, fun j hj => ?_⟩
    obtain ⟨A', n', c', h1⟩ := hcl j hj
    have hk : ∀ x, w'.cell? ⟨b, x, none⟩ = w.cell? ⟨b, x, none⟩ := fun x => hb.cell hbl
    exact ⟨A', n', c', (hk _).trans h1.kind, (hk _).trans h1.pl, (hk _).trans h1.slot, (hk _).trans h1.sli, (h1.bytes.below hb).more hb.size⟩⟩
theorem Ts.at (h : Ts w A n c tr) {i : Nat} (hi : i < n) : ∃ b o A' n' c', A = some ⟨b, o, none⟩ ∧ TrAt w b (o + i * 4) (tr[i]'(by have := h.len; omega)) A' n' c' := by
  obtain ⟨b, o, hA, hb, hc⟩ := h.cells (by omega)
  obtain ⟨A', n', c', h1⟩ := hc i (by have := h.len; omega)
  exact ⟨b, o, A', n', c', hA, h1⟩
/-- the first k of them -/
theorem Ts.cut (h : Ts w A n c tr) {k : Nat} (hk : k ≤ n) : Ts w A k c (tr.take k) := by
  have hl := h.len
  refine ⟨by simp; omega, by have := h.cap; omega, h.max, h.nil, fun h0 => ?_⟩
  obtain ⟨b, o, hA, hb, hc⟩ := h.cells (by omega)
  refine ⟨b, o, hA, hb, fun j hj => ?_⟩
  have hj2 : j < tr.length := by simp at hj; omega
  obtain ⟨A', n', c', h1⟩ := hc j hj2
  refine ⟨A', n', c', ?_⟩
  rw [List.getElem_take]
  exact h1
theorem tr_blk {g : Nat} {L : List Hd4} {rest : List Value} (h : Blk w g 61 (trCells L ++ rest)) {j : Nat} (hj : j < L.length) {i : Nat} (hi : i < 4) : w.cell? ⟨g, j * 4 + i, none⟩ = (hd4 L[j])[i]? := by
  rw [h.cell? (j * 4 + i), List.getElem?_append_left (by rw [trCells_length]; omega)]
  exact trCells_at L j hj i hi
theorem tr_own {base : Nat} {v : Value} {m : Nat} {L : List Hd4} (h : w.ownsRow base 61 4 v m (trCells L)) {j : Nat} (hj : j < L.length) : ∃ g cp, v = .slice (some ⟨g, 0, none⟩) m cp ∧ g < w.heap.size ∧ ∀ i, i < 4 → w.cell? ⟨g, j * 4 + i, none⟩ = (hd4 L[j])[i]? := by
  have hl := h.1
  rw [trCells_length] at hl
  rcases h.2 with ⟨rfl, rfl⟩ | ⟨g, cap, cur, rfl, _, hh, _, _, hs, ht⟩
  · omega
  · refine ⟨g, cap, rfl, (Array.getElem?_eq_some_iff.1 hh).1, fun i hi => ?_⟩
    rw [cell_of_row w g (j * 4 + i) cur _ (0, 0) hh, ← trCells_at L j hj i hi, ← ht, List.getElem?_take, if_pos (by omega)]
    simp
theorem full4 {base g m : Nat} {e : TypeId} {xs : List Value} (h : w.ownsRow base e 4 (.slice (some ⟨g, 0, none⟩) m m) m xs) : Blk w g e xs ∧ xs.length = m * 4 := by
  refine ⟨⟨?_⟩, h.1⟩
  rcases h.2 with ⟨h', _⟩ | ⟨g', cap, cur, h', hb, hg, hnc, hcm, hcs, htake⟩
  · simp at h'
  · simp only [Value.slice.injEq, Option.some.injEq, Addr.mk.injEq, and_true, true_and] at h'
    obtain ⟨rfl, rfl⟩ := h'
    have e1 : cur.toList = xs := by
      rw [← htake, List.take_of_length_le]
      simp [hcs]
    rw [← e1]
    simpa using hg
/-- the traced things done so far: the row under way -/
structure TcW (w0 w : World) (M : Nat → Prop) (g i m : Nat) (tr : List Tr) : Prop where
  is : ∃ L rest, Blk w g 61 (trCells L ++ rest) ∧ L.length = i ∧ rest.length = (m - i) * 4 ∧ TrL w M L (tr.take i)
  below : Below w0.heap.size w0 w
theorem TcW.store {w0 w1 : World} {g i m : Nat} {tr : List Tr} (h : TcW w0 w M g i m tr) (hi : i < tr.length) (him : i < m) (hg : w0.heap.size ≤ g) (hb : Below w.heap.size w w1) {Av : Option Addr} {nv cv : Nat} (hB : BsM w1 M Av nv cv tr[i].bytes) (hok : TrOk tr[i]) (hMg : M g) :
    ∃ cs, Blk w1 g 61 cs ∧ i * 4 + 4 ≤ cs.length ∧ ∀ w2, Blk w2 g 61 (cs.take (i * 4) ++ hd4 (tr[i].kind, tr[i].pl, tr[i].slot, Av, nv, cv) ++ cs.drop (i * 4 + 4)) → Only g w1 w2 → TcW w0 w2 M g (i + 1) m tr := by
  obtain ⟨L, rest, h1, h2, h3, h4⟩ := h.is
  have hgl := h1.lt
  refine ⟨trCells L ++ rest, h1.below hb hgl, by rw [List.length_append, trCells_length, h2, h3]; omega, fun w2 hk ho => ⟨⟨L ++ [(tr[i].kind, tr[i].pl, tr[i].slot, Av, nv, cv)], rest.drop 4, ?_, by simp [h2], by rw [List.length_drop, h3]; omega, ?_⟩, h.below.trans ((hb.mono h.below.size).trans (ho.below hg))⟩⟩
  · have hlen : (trCells L).length = i * 4 := by rw [trCells_length, h2]
    rw [List.take_append, hlen, Nat.sub_self, List.take_zero, List.append_nil, List.take_of_length_le (by omega), List.drop_append, hlen, List.drop_of_length_le (by omega), List.nil_append, show i * 4 + 4 - i * 4 = 4 by omega] at hk
    rw [trCells_append]
    simpa [trCells] using hk
  · have C : Chg (fun k => k = g) w1 w2 := Chg.of_only ho rfl
    have hS : ∀ k, k = g → M k := fun k e => e ▸ hMg
    rw [List.take_succ_eq_append_getElem hi]
    exact ((h4.chg (M' := M) (S := fun _ => False) (Chg.of_below _ hb) (fun _ h => h.elim) (fun _ h => .inl h)).chg (M' := M) C hS (fun _ h => .inl h)).snoc ⟨hok, rfl, rfl, rfl, hB.chg C hS (fun _ h => .inl h)⟩
theorem TcW.below' {w0 w1 : World} {g i m : Nat} {tr : List Tr} (h : TcW w0 w M g i m tr) (hb : Below w.heap.size w w1) : TcW w0 w1 M g i m tr := by
  obtain ⟨L, rest, h1, h2, h3, h4⟩ := h.is
  exact ⟨⟨L, rest, h1.below hb h1.lt, h2, h3, h4.chg (S := fun _ => False) (Chg.of_below _ hb) (fun _ h => h.elim) (fun _ h => .inl h)⟩, h.below.trans (hb.mono h.below.size)⟩
theorem BsM.weak {M0 : Nat → Prop} {l : List UInt8} (h : BsM w M A n c l) (hM : ∀ k, M0 k → M k) : BsM w M0 A n c l := ⟨h.bs, fun ad hA h0 hm => h.apart ad hA h0 (hM _ hm), h.fit⟩
/-- all are done -/
theorem TcW.done {w0 : World} {M0 : Nat → Prop} {g m : Nat} {tr : List Tr} (h : TcW w0 w M g m m tr) (hm : tr.length = m) (hM : ∀ k, M0 k → M k) (hg : ¬ M0 g) (hmx : m ≤ 1000000) : TsM w M0 (some ⟨g, 0, none⟩) m m tr := by
  obtain ⟨L, rest, h1, h2, h3, h4⟩ := h.is
  rw [List.take_of_length_le (by omega)] at h4
  refine ⟨hm, Nat.le_refl _, by simp only [maxLen]; omega, (fun h => by cases h), fun _ => ⟨g, 0, rfl, h1.lt, hg, fun j hj => ?_⟩⟩
  have hjL : j < L.length := by omega
  have e := h4.each j hjL
  refine ⟨L[j].2.2.2.1, L[j].2.2.2.2.1, L[j].2.2.2.2.2, ⟨?_, ?_, ?_, ?_, e.bytes.bs⟩, e.bytes.weak hM⟩
  · have k := tr_blk h1 hjL (i := 0) (by omega)
    rw [Nat.zero_add]
    rw [Nat.add_zero] at k
    rw [k, ← e.kind]; rfl
  · have k := tr_blk h1 hjL (i := 1) (by omega)
    rw [Nat.zero_add, k, ← e.pl]; rfl
  · have k := tr_blk h1 hjL (i := 2) (by omega)
    rw [Nat.zero_add, k, ← e.slot]; rfl
  · have k := tr_blk h1 hjL (i := 3) (by omega)
    rw [Nat.zero_add, k]; rfl
end
set_option maxRecDepth 100000 in
set_option maxHeartbeats 4000000 in
theorem trace_any {O M : Nat → Prop} {b : Nat} {ad : Ad} {t : Wd} {p : Int × Int → Option Nat} {L : List Hd4} {w : World} (h : Parts w O M b ad t p L) (hlen : t.tr.length ≤ 1000000) :
    Calls Try.prog 27 #[.pointer (some ⟨b, 0, none⟩)] w fun e w' => ∃ A n c, e = .returned (.slice A n c) ∧ Below w.heap.size w w' ∧ TsM w' M A n c t.tr := by
  obtain ⟨n, hn⟩ : ∃ n, n = t.tr.length := ⟨_, rfl⟩
  have HP : Kp _ := ⟨h⟩
  have hown := h.trace.own
  rw [← hn] at hown hlen
  obtain ⟨At, nt, ct, hvt⟩ := own_slice hown
  obtain rfl : nt = n := by
    rcases hown.2 with ⟨h1, h2⟩ | ⟨_, _, _, h1, _⟩
    · rw [hvt] at h1; injection h1 with _ h3 _; omega
    · rw [hvt] at h1; injection h1
  have c9 : w.cell? ⟨b, 9, none⟩ = some (.slice At nt ct) := by rw [h.blk.cell? 9, ← hvt]; rfl
  obtain ⟨i, hi, hz0, hz1, hz2⟩ := info_parts infoTr
  have HI : Kp (i.bytes * nt ≤ 281474976710656) := ⟨by rw [hz2]; omega⟩
  have HIn : Kp _ := ⟨And.intro hi (And.intro hz0 hz1)⟩
  have HZl : Kp (zeroTr.length = 4) := ⟨rfl⟩
  have HN : Kp (t.tr.length = nt) := ⟨hn.symm⟩
  have HLl : Kp (L.length = nt) := ⟨by rw [h.trace.heads.len]; exact hn.symm⟩
  have HV : Kp _ := ⟨hvt⟩
  clear h hown hvt hi hz0 hz1 hz2 hn
  go_enter Try.func27, Try.ntmps27
  go_wp2_with (with_reducible refine wpList_make_full (o := ⟨some 13, _, _, _, _, _⟩) w rfl (.tmp 12) (.tmp 12) 40 rfl w.heap.size 61 i (.agg zeroTr.toArray) 4 Try.underlying40 HIn.out.1 HIn.out.2.1 HIn.out.2.2 .i64 .i64 _ _ nt rfl rfl rfl rfl HI.out (by simp only [maxLen]; omega) (Nat.le_refl _) ?_)
  intro w1 hown1 hg1
  have hb1 : Below w.heap.size w w1 := (Below.refl _ _).grown hg1 (Nat.le_refl _) (by simp)
  obtain ⟨hk1, hl1⟩ := full4 hown1
  have H1 : Kp (TcW w w1 (fun k => M k ∨ k = w.heap.size) w.heap.size 0 nt t.tr) := ⟨⟨⟨[], _, by simpa [trCells] using hk1, rfl, by rw [hl1]; omega, TrL.nil _ _⟩, hb1⟩⟩
  have c91 : w1.cell? ⟨b, 9, none⟩ = some (.slice At nt ct) := by rw [← c9]; exact hb1.cell HP.out.blk.lt
  have hgl : w.heap.size < w1.heap.size := hk1.lt
  clear hown1 hg1 hb1 hk1 hl1 HI HIn
  go_wp2
  go_loopg [19] nt (fun gk v19 wr => ∃ i : Nat, i + gk = nt ∧ v19 = .int .i64 i ∧ Kp (TcW w wr (fun k => M k ∨ k = w.heap.size) w.heap.size i nt t.tr))
  case atStart => exact ⟨0, by omega, rfl, H1⟩
  case round =>
    clear H1 c91 c9
    obtain ⟨i, hi, rfl, HT⟩ := hrel
    cases gk with
    | zero =>
      have hlt : ¬ ((i : Int) < (nt : Int)) := by omega
      have HE : Kp (i = nt) := ⟨by omega⟩
      have hlen' := hlen
      go_wp2
      go_ret
      have h9 := HT.out
      rw [HE.out] at h9
      exact ⟨some ⟨w.heap.size, 0, none⟩, nt, nt, rfl, h9.below, h9.done HN.out (fun _ h => .inl h) (fun hm => by have := HP.out.lt _ hm; omega) hlen'⟩
    | succ g2 =>
      have hlt : (i : Int) < (nt : Int) := by omega
      have hin : i < nt := by omega
      have hiL : i < L.length := by rw [HLl.out]; exact hin
      have hit : i < t.tr.length := by rw [HN.out]; exact hin
      obtain ⟨gt, cp, hv, hgt, hcl⟩ := tr_own HP.out.trace.own hiL
      rw [HV.out] at hv
      have hAt : At = some ⟨gt, 0, none⟩ := by injection hv
      have he := HP.out.trace.heads.each i hiL
      have hgtw : ∀ x, wr.cell? ⟨gt, x, none⟩ = w.cell? ⟨gt, x, none⟩ := fun x => HT.out.below.cell hgt
      have q0 : wr.cell? ⟨gt, i * 4, none⟩ = some (.int .i64 (t.tr[i]'hit).kind) := by have k := hcl 0 (by omega); rw [Nat.add_zero] at k; rw [hgtw, k, ← he.kind]; rfl
      have q1 : wr.cell? ⟨gt, i * 4 + 1, none⟩ = some (.int .i64 (t.tr[i]'hit).pl) := by rw [hgtw, hcl 1 (by omega), ← he.pl]; rfl
      have q2 : wr.cell? ⟨gt, i * 4 + 2, none⟩ = some (.int .i64 (t.tr[i]'hit).slot) := by rw [hgtw, hcl 2 (by omega), ← he.slot]; rfl
      obtain ⟨Ab, nb, cb, q3, hbb⟩ : ∃ Ab nb cb, wr.cell? ⟨gt, i * 4 + 3, none⟩ = some (.slice Ab nb cb) ∧ BsM w M Ab nb cb (t.tr[i]'hit).bytes := ⟨_, _, _, by rw [hgtw, hcl 3 (by omega)]; rfl, he.bytes⟩
      have HOk : Kp (TrOk (t.tr[i]'hit)) := ⟨he.ok⟩
      have HBb : Kp _ := ⟨hbb⟩
      obtain ⟨x, hx⟩ : ∃ x, x = t.tr[i]'hit := ⟨_, rfl⟩
      rw [← hx] at q0 q1 q2 HOk HBb
      have HX : Kp (x = t.tr[i]'hit) := ⟨hx⟩
      have hgr : w.heap.size < wr.heap.size := by
        obtain ⟨_, _, h9, _⟩ := HT.out.is
        exact h9.lt
      subst hAt
      clear hcl hv he hgtw hbb hx
      go_wp2_with (with_reducible refine wpList_alloc (o := ⟨some 5, _, _, _, _, _⟩) tyTr rfl rfl ?_)
      intro w5 hk5 hb5 hs5
      have HK5 : Kp _ := ⟨And.intro hk5 hb5⟩
      have HV5 : Kp (([.int .i64 x.kind, .int .i64 x.pl, .int .i64 x.slot, .slice Ab nb cb] : List Value).length = 4) := ⟨rfl⟩
      have HO5 : Kp (∀ u ∈ ([.int .i64 x.kind, .int .i64 x.pl, .int .i64 x.slot, .slice Ab nb cb] : List Value), u.oneCell' = true) := ⟨hd4_one (x.kind, x.pl, x.slot, Ab, nb, cb)⟩
      clear hk5 hb5 hs5
      go_wp2_with (with_reducible refine wpList_storeAll (o := ⟨none, _, _, _, _, _⟩) (vs := [.int .i64 x.kind, .int .i64 x.pl, .int .i64 x.slot, .slice Ab nb cb]) rwTr rfl (.tmp 5) (.tmp 23) rfl rfl HK5.out.1 HZl.out HV5.out HO5.out rfl ?_)
      intro w6 hk6 ho6
      have hb6 : Below wr.heap.size wr w6 := HK5.out.2.trans (ho6.below (Nat.le_refl _))
      have d0 : w6.cell? ⟨wr.heap.size, 0, none⟩ = some (.int .i64 x.kind) := hk6.cell? 0
      have d1 : w6.cell? ⟨wr.heap.size, 1, none⟩ = some (.int .i64 x.pl) := hk6.cell? 1
      have d2 : w6.cell? ⟨wr.heap.size, 2, none⟩ = some (.int .i64 x.slot) := hk6.cell? 2
      have d3 : w6.cell? ⟨wr.heap.size, 3, none⟩ = some (.slice Ab nb cb) := hk6.cell? 3
      have H6 : Kp _ := ⟨HT.out.below' hb6⟩
      clear hk6 ho6 HK5 HT q0 q1 q2 q3 HV5 HO5
      go_wp2_with fail
      refine (traced_any x HOk.out Ab nb cb w6 ((HBb.out.bs.below H6.out.below).more H6.out.below.size) HBb.out.fit).mono ?_
      rintro e w7 ⟨A7, c7, rfl, ho7, hb7⟩
      have hMlt : ∀ k, (M k ∨ k = w.heap.size) → k < w6.heap.size := fun k hk => by
        rcases hk with h9 | h9
        · have := HP.out.lt k h9; have := H6.out.below.size; omega
        · have := hb6.size; omega
      obtain ⟨A8, c8, e8, hB8⟩ := BsM.of_own (M := fun k => M k ∨ k = w.heap.size) ho7 hMlt HBb.out.fit
      have e9 : A8 = A7 ∧ c8 = c7 := by injection e8 with e10 _ e11; exact ⟨e10.symm, e11.symm⟩
      rw [e9.1, e9.2] at hB8
      obtain ⟨cs, hkc, hfit, hnext⟩ := H6.out.store hit hin (Nat.le_refl _) hb7 (by rw [← HX.out]; exact hB8) (by rw [← HX.out]; exact HOk.out) (.inr rfl)
      rw [← HX.out] at hnext
      have HKc : Kp _ := ⟨hkc⟩
      have HFit : Kp _ := ⟨hfit⟩
      have HNx : Kp _ := ⟨hnext⟩
      have HV7 : Kp (([.int .i64 x.kind, .int .i64 x.pl, .int .i64 x.slot, .slice A7 nb c7] : List Value).length = 4) := ⟨rfl⟩
      have HO7 : Kp (∀ u ∈ ([.int .i64 x.kind, .int .i64 x.pl, .int .i64 x.slot, .slice A7 nb c7] : List Value), u.oneCell' = true) := ⟨hd4_one (x.kind, x.pl, x.slot, A7, nb, c7)⟩
      simp only [hd4]
      clear ho7 hb7 e8 e9 hB8 hkc hfit hnext H6 d0 d1 d2 d3 hb6
      go_wp2_with (with_reducible refine wpList_store (o := ⟨none, _, _, _, _, _⟩) (vs := [.int .i64 x.kind, .int .i64 x.pl, .int .i64 x.slot, .slice A7 nb c7]) rwTr rfl (.tmp 35) (.tmp 34) rfl rfl rfl HKc.out HV7.out HFit.out HO7.out ?_)
      intro w8 hk8 ho8
      have H8 : Kp _ := ⟨HNx.out w8 (by simpa [hd4] using hk8) ho8⟩
      clear hk8 ho8 HKc HFit HNx
      go_wp2
      go_roundg g2
      case measure => omega
      case rel => exact ⟨i + 1, by omega, by go_num, H8⟩
theorem st_trace {w0 w : World} {k b : Nat} {t : Wd} {ws : List (Nat × Wd)} {hs : List Held} {sn : List (World × (Nat → Prop))} (h : StS w0 w k ((b, t) :: ws) hs sn) (hk : k ≤ 1000000) :
    Calls Try.prog 27 #[.pointer (some ⟨b, 0, none⟩)] w fun e w' => ∃ A n c M, e = .returned (.slice A n c) ∧ StS w0 w' k ((b, t) :: ws) hs ((w', M) :: sn) ∧ TsM w' M A n c t.tr := by
  obtain ⟨M, Os, h1, h2, h3, h4, h5⟩ := h.is
  cases Os with
  | nil => exact h1.elim
  | cons O Os =>
    obtain ⟨⟨ad, p, L, hP⟩, hd, hE⟩ := h1
    refine (trace_any hP (by have := h.first.tr; show t.tr.length ≤ _; omega)).mono ?_
    rintro e w' ⟨A, n, c, rfl, hb, hT⟩
    have hlt : ∀ k, M k → k < w'.heap.size := fun k hk => Nat.lt_of_lt_of_le (h2 k hk) hb.size
    refine ⟨A, n, c, M, rfl, ⟨⟨M, O :: Os, ?_, hlt, h3, fun x hx => (h4 x hx).below hb, fun s hs => ?_⟩, h.below.trans (hb.mono h.below.size), h.small⟩, hT⟩
    · exact Each.chg (S := fun _ => False) (Chg.of_below _ hb) (fun _ h => h.elim) (fun _ h => .inl h) (fun _ h => h) hlt (fun _ _ _ h => h.elim) (show Each w M (O :: Os) ((b, t) :: ws) from ⟨⟨ad, p, L, hP⟩, hd, hE⟩)
    · rcases List.mem_cons.1 hs with rfl | hs
      · exact ⟨Chg.refl _ _, fun _ h => .inl h⟩
      · exact (h5 s hs).next (Chg.of_below (fun _ => False) hb) (fun _ h => h.elim) (fun _ h => .inl h)
end Go.Proofs.Ytpbpegoobgfjcaa

namespace Go.Proofs.Ytpbpegoobgfjcaa
open Go.RowKit
set_option maxRecDepth 100000 in
set_option maxHeartbeats 4000000 in
theorem trace_own {O M : Nat → Prop} {b : Nat} {ad : Ad} {t : Wd} {p : Int × Int → Option Nat} {L : List Hd4} {w : World} (h : Parts w O M b ad t p L) (hlen : t.tr.length ≤ 1000000) :
    Calls Try.prog 27 #[.pointer (some ⟨b, 0, none⟩)] w fun e w' => ∃ v, e = .returned v ∧ Below w.heap.size w w' ∧ ∃ L', w'.ownsRow w.heap.size 61 4 v t.tr.length (trCells L') ∧ (∀ g, v.ownBlock = some g → w.heap.size ≤ g) ∧ TrL w' (fun k => M k ∨ v.ownBlock = some k) L' t.tr := by
  obtain ⟨n, hn⟩ : ∃ n, n = t.tr.length := ⟨_, rfl⟩
  have HP : Kp _ := ⟨h⟩
  have hown := h.trace.own
  rw [← hn] at hown hlen
  obtain ⟨At, nt, ct, hvt⟩ := own_slice hown
  obtain rfl : nt = n := by
    rcases hown.2 with ⟨h1, h2⟩ | ⟨_, _, _, h1, _⟩
    · rw [hvt] at h1; injection h1 with _ h3 _; omega
    · rw [hvt] at h1; injection h1
  have c9 : w.cell? ⟨b, 9, none⟩ = some (.slice At nt ct) := by rw [h.blk.cell? 9, ← hvt]; rfl
  obtain ⟨i, hi, hz0, hz1, hz2⟩ := info_parts infoTr
  have HI : Kp (i.bytes * nt ≤ 281474976710656) := ⟨by rw [hz2]; omega⟩
  have HIn : Kp _ := ⟨And.intro hi (And.intro hz0 hz1)⟩
  have HZl : Kp (zeroTr.length = 4) := ⟨rfl⟩
  have HN : Kp (t.tr.length = nt) := ⟨hn.symm⟩
  have HLl : Kp (L.length = nt) := ⟨by rw [h.trace.heads.len]; exact hn.symm⟩
  have HV : Kp _ := ⟨hvt⟩
  clear h hown hvt hi hz0 hz1 hz2 hn
  go_enter Try.func27, Try.ntmps27
  go_wp2_with (with_reducible refine wpList_make_full (o := ⟨some 13, _, _, _, _, _⟩) w rfl (.tmp 12) (.tmp 12) 40 rfl w.heap.size 61 i (.agg zeroTr.toArray) 4 Try.underlying40 HIn.out.1 HIn.out.2.1 HIn.out.2.2 .i64 .i64 _ _ nt rfl rfl rfl rfl HI.out (by simp only [maxLen]; omega) (Nat.le_refl _) ?_)
  intro w1 hown1 hg1
  have hb1 : Below w.heap.size w w1 := (Below.refl _ _).grown hg1 (Nat.le_refl _) (by simp)
  obtain ⟨hk1, hl1⟩ := full4 hown1
  have H1 : Kp (TcW w w1 (fun k => M k ∨ k = w.heap.size) w.heap.size 0 nt t.tr) := ⟨⟨⟨[], _, by simpa [trCells] using hk1, rfl, by rw [hl1]; omega, TrL.nil _ _⟩, hb1⟩⟩
  have c91 : w1.cell? ⟨b, 9, none⟩ = some (.slice At nt ct) := by rw [← c9]; exact hb1.cell HP.out.blk.lt
  have hgl : w.heap.size < w1.heap.size := hk1.lt
  clear hown1 hg1 hb1 hk1 hl1 HI HIn
  go_wp2
  go_loopg [19] nt (fun gk v19 wr => ∃ i : Nat, i + gk = nt ∧ v19 = .int .i64 i ∧ Kp (TcW w wr (fun k => M k ∨ k = w.heap.size) w.heap.size i nt t.tr))
  case atStart => exact ⟨0, by omega, rfl, H1⟩
  case round =>
    clear H1 c91 c9
    obtain ⟨i, hi, rfl, HT⟩ := hrel
    cases gk with
    | zero =>
      have hlt : ¬ ((i : Int) < (nt : Int)) := by omega
      have HE : Kp (i = nt) := ⟨by omega⟩
      have hlen' := hlen
      go_wp2
      go_ret
      have h9 := HT.out
      rw [HE.out] at h9
      obtain ⟨L', rest, h1, h2, h3, h4⟩ := h9.is
      have hr0 : rest = [] := List.eq_nil_of_length_eq_zero (by rw [h3]; omega)
      rw [hr0, List.append_nil] at h1
      rw [List.take_of_length_le (by rw [HN.out]; exact Nat.le_refl _)] at h4
      refine ⟨_, rfl, h9.below, L', ⟨by rw [trCells_length, h2, HN.out], .inr ⟨w.heap.size, nt, (trCells L').toArray, by (rw [HN.out]; rfl), Nat.le_refl _, h1.heap, by rw [HN.out]; exact Nat.le_refl _, by simp only [maxLen]; omega, by simp [trCells_length, h2], by rw [HN.out]; exact List.take_of_length_le (by simp [trCells_length, h2])⟩⟩, fun g hg => ?_, ?_⟩
      · exact Nat.le_of_eq (Option.some.inj hg)
      · exact h4.chg (S := fun _ => False) (Chg.refl _ _) (fun _ h => h.elim) (fun k hk => .inl (hk.imp id (fun e => (Option.some.inj e).symm)))
    | succ g2 =>
      have hlt : (i : Int) < (nt : Int) := by omega
      have hin : i < nt := by omega
      have hiL : i < L.length := by rw [HLl.out]; exact hin
      have hit : i < t.tr.length := by rw [HN.out]; exact hin
      obtain ⟨gt, cp, hv, hgt, hcl⟩ := tr_own HP.out.trace.own hiL
      rw [HV.out] at hv
      have hAt : At = some ⟨gt, 0, none⟩ := by injection hv
      have he := HP.out.trace.heads.each i hiL
      have hgtw : ∀ x, wr.cell? ⟨gt, x, none⟩ = w.cell? ⟨gt, x, none⟩ := fun x => HT.out.below.cell hgt
      have q0 : wr.cell? ⟨gt, i * 4, none⟩ = some (.int .i64 (t.tr[i]'hit).kind) := by have k := hcl 0 (by omega); rw [Nat.add_zero] at k; rw [hgtw, k, ← he.kind]; rfl
      have q1 : wr.cell? ⟨gt, i * 4 + 1, none⟩ = some (.int .i64 (t.tr[i]'hit).pl) := by rw [hgtw, hcl 1 (by omega), ← he.pl]; rfl
      have q2 : wr.cell? ⟨gt, i * 4 + 2, none⟩ = some (.int .i64 (t.tr[i]'hit).slot) := by rw [hgtw, hcl 2 (by omega), ← he.slot]; rfl
      obtain ⟨Ab, nb, cb, q3, hbb⟩ : ∃ Ab nb cb, wr.cell? ⟨gt, i * 4 + 3, none⟩ = some (.slice Ab nb cb) ∧ BsM w M Ab nb cb (t.tr[i]'hit).bytes := ⟨_, _, _, by rw [hgtw, hcl 3 (by omega)]; rfl, he.bytes⟩
      have HOk : Kp (TrOk (t.tr[i]'hit)) := ⟨he.ok⟩
      have HBb : Kp _ := ⟨hbb⟩
      obtain ⟨x, hx⟩ : ∃ x, x = t.tr[i]'hit := ⟨_, rfl⟩
      rw [← hx] at q0 q1 q2 HOk HBb
      have HX : Kp (x = t.tr[i]'hit) := ⟨hx⟩
      have hgr : w.heap.size < wr.heap.size := by
        obtain ⟨_, _, h9, _⟩ := HT.out.is
        exact h9.lt
      subst hAt
      clear hcl hv he hgtw hbb hx
      go_wp2_with (with_reducible refine wpList_alloc (o := ⟨some 5, _, _, _, _, _⟩) tyTr rfl rfl ?_)
      intro w5 hk5 hb5 hs5
      have HK5 : Kp _ := ⟨And.intro hk5 hb5⟩
      have HV5 : Kp (([.int .i64 x.kind, .int .i64 x.pl, .int .i64 x.slot, .slice Ab nb cb] : List Value).length = 4) := ⟨rfl⟩
      have HO5 : Kp (∀ u ∈ ([.int .i64 x.kind, .int .i64 x.pl, .int .i64 x.slot, .slice Ab nb cb] : List Value), u.oneCell' = true) := ⟨hd4_one (x.kind, x.pl, x.slot, Ab, nb, cb)⟩
      clear hk5 hb5 hs5
      go_wp2_with (with_reducible refine wpList_storeAll (o := ⟨none, _, _, _, _, _⟩) (vs := [.int .i64 x.kind, .int .i64 x.pl, .int .i64 x.slot, .slice Ab nb cb]) rwTr rfl (.tmp 5) (.tmp 23) rfl rfl HK5.out.1 HZl.out HV5.out HO5.out rfl ?_)
      intro w6 hk6 ho6
      have hb6 : Below wr.heap.size wr w6 := HK5.out.2.trans (ho6.below (Nat.le_refl _))
      have d0 : w6.cell? ⟨wr.heap.size, 0, none⟩ = some (.int .i64 x.kind) := hk6.cell? 0
      have d1 : w6.cell? ⟨wr.heap.size, 1, none⟩ = some (.int .i64 x.pl) := hk6.cell? 1
      have d2 : w6.cell? ⟨wr.heap.size, 2, none⟩ = some (.int .i64 x.slot) := hk6.cell? 2
      have d3 : w6.cell? ⟨wr.heap.size, 3, none⟩ = some (.slice Ab nb cb) := hk6.cell? 3
      have H6 : Kp _ := ⟨HT.out.below' hb6⟩
      clear hk6 ho6 HK5 HT q0 q1 q2 q3 HV5 HO5
      go_wp2_with fail
      refine (traced_any x HOk.out Ab nb cb w6 ((HBb.out.bs.below H6.out.below).more H6.out.below.size) HBb.out.fit).mono ?_
      rintro e w7 ⟨A7, c7, rfl, ho7, hb7⟩
      have hMlt : ∀ k, (M k ∨ k = w.heap.size) → k < w6.heap.size := fun k hk => by
        rcases hk with h9 | h9
        · have := HP.out.lt k h9; have := H6.out.below.size; omega
        · have := hb6.size; omega
      obtain ⟨A8, c8, e8, hB8⟩ := BsM.of_own (M := fun k => M k ∨ k = w.heap.size) ho7 hMlt HBb.out.fit
      have e9 : A8 = A7 ∧ c8 = c7 := by injection e8 with e10 _ e11; exact ⟨e10.symm, e11.symm⟩
      rw [e9.1, e9.2] at hB8
      obtain ⟨cs, hkc, hfit, hnext⟩ := H6.out.store hit hin (Nat.le_refl _) hb7 (by rw [← HX.out]; exact hB8) (by rw [← HX.out]; exact HOk.out) (.inr rfl)
      rw [← HX.out] at hnext
      have HKc : Kp _ := ⟨hkc⟩
      have HFit : Kp _ := ⟨hfit⟩
      have HNx : Kp _ := ⟨hnext⟩
      have HV7 : Kp (([.int .i64 x.kind, .int .i64 x.pl, .int .i64 x.slot, .slice A7 nb c7] : List Value).length = 4) := ⟨rfl⟩
      have HO7 : Kp (∀ u ∈ ([.int .i64 x.kind, .int .i64 x.pl, .int .i64 x.slot, .slice A7 nb c7] : List Value), u.oneCell' = true) := ⟨hd4_one (x.kind, x.pl, x.slot, A7, nb, c7)⟩
      simp only [hd4]
      clear ho7 hb7 e8 e9 hB8 hkc hfit hnext H6 d0 d1 d2 d3 hb6
      go_wp2_with (with_reducible refine wpList_store (o := ⟨none, _, _, _, _, _⟩) (vs := [.int .i64 x.kind, .int .i64 x.pl, .int .i64 x.slot, .slice A7 nb c7]) rwTr rfl (.tmp 35) (.tmp 34) rfl rfl rfl HKc.out HV7.out HFit.out HO7.out ?_)
      intro w8 hk8 ho8
      have H8 : Kp _ := ⟨HNx.out w8 (by simpa [hd4] using hk8) ho8⟩
      clear hk8 ho8 HKc HFit HNx
      go_wp2
      go_roundg g2
      case measure => omega
      case rel => exact ⟨i + 1, by omega, by go_num, H8⟩

section
variable {w wr w1 w2 : World} {M O : Nat → Prop} {t : Wd} {b ms g nn : Nat} {ad ad' : Ad} {vt : Value} {L L0 : List Hd4} {p p' : Int × Int → Option Nat}
/-- the copy's own blocks while its slots are laid -/
def CpO (ms g : Nat) (vt : Value) (p' : Int × Int → Option Nat) : Nat → Prop := fun k => k = g ∨ k = ms ∨ vt.ownBlock = some k ∨ ∃ x, p' x = some k
/-- what a copy has before its seals, its reads and its lies are told -/
def cp0 (t : Wd) : Wd := { t with s0 := [], s1 := [], reads := 0, lies := fun _ => none, nl := 0 }
structure CpI (w wr : World) (M : Nat → Prop) (t : Wd) (ms g : Nat) (vt : Value) (L : List Hd4) (nn : Nat) (p' : Int × Int → Option Nat) : Prop where
  map : MapI wr Try.prog 80 kvP okP ms nn (fun x => (p' x).map ptr)
  own : ∀ k, CpO ms g vt p' k → w.heap.size ≤ k ∧ k < wr.heap.size
  ok : ∀ x k, p' x = some k → okP x
  blk : ∀ x k, p' x = some k → Blk wr k 78 (cells8 (t.sl x))
  inj : ∀ x y k, p' x = some k → p' y = some k → x = y
  world : Blk wr g 75 (wdCells ⟨ms, none, .slice none 0 0, .slice none 0 0, vt⟩ (cp0 t))
  row : wr.ownsRow 0 61 4 vt t.tr.length (trCells L)
  heads : TrL wr (fun k => M k ∨ CpO ms g vt p' k) L t.tr
  below : Below w.heap.size w wr
theorem IsIter.ne {r : Nat} (h : ∃ m s x c, w.heap[r]? = some (.mapIter m s x c)) (h2 : ∃ es c, w.heap[ms]? = some (.map es c)) : r ≠ ms := fun e => by
  subst e
  obtain ⟨_, _, _, _, h⟩ := h
  obtain ⟨_, _, h2⟩ := h2
  rw [h] at h2; cases h2
/-- nothing that was there has turned -/
theorem CpI.stay (h : CpI w wr M t ms g vt L nn p') (hb : Below wr.heap.size wr w1) : CpI w w1 M t ms g vt L nn p' := by
  refine ⟨h.map.stay (hb.block _ h.map.lt), fun k hk => ⟨(h.own k hk).1, Nat.lt_of_lt_of_le (h.own k hk).2 hb.size⟩, h.ok, fun x k hk => (h.blk x k hk).below hb (h.blk x k hk).lt, h.inj, h.world.below hb h.world.lt, own4_stay h.row (fun k hk => hb.block k (h.own k (.inr (.inr (.inl hk)))).2), h.heads.chg (S := fun _ => False) (Chg.of_below _ hb) (fun _ h => h.elim) (fun _ h => .inl h), h.below.trans (hb.mono h.below.size)⟩
/-- only the iterator has turned, which is no block of the copy -/
theorem CpI.iter {r : Nat} (h : CpI w wr M t ms g vt L nn p') (hg : wr.grownBy w1 (some r)) (hr : ∃ m s x c, wr.heap[r]? = some (.mapIter m s x c)) (hrw : w.heap.size ≤ r) : CpI w w1 M t ms g vt L nn p' := by
  have hne : ∀ {k : Nat}, (∃ es c, wr.heap[k]? = some (.map es c)) ∨ (∃ cs e f, wr.heap[k]? = some (.cells cs e f)) → k ≠ r := fun {k} h9 e => by
    subst e
    obtain ⟨m, s, x, c, hr⟩ := hr
    rcases h9 with ⟨_, _, h9⟩ | ⟨_, _, _, h9⟩ <;> rw [hr] at h9 <;> cases h9
  have hk : ∀ {k : Nat}, k < wr.heap.size → ((∃ es c, wr.heap[k]? = some (.map es c)) ∨ (∃ cs e f, wr.heap[k]? = some (.cells cs e f))) → w1.heap[k]? = wr.heap[k]? := fun {k} h1 h2 => hg.block k h1 (fun e => hne h2 (Option.some.inj e))
  have C : Chg (fun k => k = r) wr w1 := ⟨hg.os, hg.tape, hg.output, hg.size, fun k hk hn => hg.block k hk (fun e => hn (Option.some.inj e))⟩
  refine ⟨h.map.stay (hk h.map.lt (.inl h.map.heap)), fun k hk => ⟨(h.own k hk).1, Nat.lt_of_lt_of_le (h.own k hk).2 hg.size⟩, h.ok, fun x k h9 => ⟨(hk (h.blk x k h9).lt (.inr ⟨_, _, _, (h.blk x k h9).heap⟩)).trans (h.blk x k h9).heap⟩, h.inj, ⟨(hk h.world.lt (.inr ⟨_, _, _, h.world.heap⟩)).trans h.world.heap⟩, own4_stay h.row (fun k h9 => hk (h.own k (.inr (.inr (.inl h9)))).2 (.inr ?_)), ⟨h.heads.len, fun j hj => ?_⟩, h.below.trans (C.below (fun k e => by rw [e]; exact hrw) h.below.size)⟩
  · rcases h.row.2 with ⟨rfl, _⟩ | ⟨k', cap, cur, rfl, _, hh, _⟩
    · cases h9
    · obtain rfl : k' = k := Option.some.inj h9
      exact ⟨_, _, _, hh⟩
  · have h9 := h.heads.each j hj
    refine ⟨h9.ok, h9.kind, h9.pl, h9.slot, ⟨⟨h9.bytes.bs.len, h9.bytes.bs.cap, h9.bytes.bs.max, h9.bytes.bs.nil, fun h0 => ?_⟩, h9.bytes.apart, h9.bytes.fit⟩⟩
    obtain ⟨b2, o2, hA, hb2, hc⟩ := h9.bytes.bs.cells h0
    refine ⟨b2, o2, hA, Nat.lt_of_lt_of_le hb2 hg.size, fun j2 hj2 => ?_⟩
    rw [← hc j2 hj2]
    refine World.cell?_of_block (w := wr) (hk hb2 (.inr ?_))
    have h8 := hc j2 hj2
    unfold World.cell? at h8
    simp only at h8
    cases hh : wr.heap[b2]? with
    | none => rw [hh] at h8; cases h8
    | some ob =>
      rw [hh] at h8
      cases ob with
      | cells cs e f => exact ⟨_, _, _, rfl⟩
      | _ => cases h8
/-- a slot is laid -/
theorem CpI.store {x : Int × Int} {gs : Nat} (h : CpI w wr M t ms g vt L nn p') (hx : okP x) (hn : p' x = none) (hgs : wr.heap.size ≤ gs) (hb : Below wr.heap.size wr w1) (hk : Blk w1 gs 78 (cells8 (t.sl x)))
    (hI : MapI w2 Try.prog 80 kvP okP ms (if ((p' x).map ptr).isSome then nn else nn + 1) (fun y => if y = x then some (ptr gs) else (p' y).map ptr)) (ho : Only ms w1 w2) : CpI w w2 M t ms g vt L (nn + 1) (fun y => if y = x then some gs else p' y) := by
  have h1 := h.stay hb
  have hmh := h1.map.heap
  have ne : ∀ {k : Nat} {e : TypeId} {cs : List Value}, Blk w1 k e cs → k ≠ ms := fun {k e cs} hk e2 => by
    subst e2
    obtain ⟨es, clock, hh⟩ := hmh
    have := hk.heap
    rw [hh] at this
    cases this
  have hO : ∀ k, CpO ms g vt (fun y => if y = x then some gs else p' y) k → CpO ms g vt p' k ∨ k = gs := fun k hk => by
    rcases hk with h9 | h9 | h9 | ⟨y, hy⟩
    · exact .inl (.inl h9)
    · exact .inl (.inr (.inl h9))
    · exact .inl (.inr (.inr (.inl h9)))
    · simp only at hy
      by_cases hyx : y = x
      · rw [if_pos hyx] at hy; exact .inr (Option.some.inj hy).symm
      · rw [if_neg hyx] at hy; exact .inl (.inr (.inr (.inr ⟨y, hy⟩)))
  have hms : w.heap.size ≤ ms := (h.own ms (.inr (.inl rfl))).1
  refine ⟨?_, fun k hk9 => ?_, fun y k hy => ?_, fun y k hy => ?_, fun y z k hy hz => ?_, h1.world.only ho (ne h1.world), own4_stay h1.row (fun k h9 => ho.block k ?_), ?_, h1.below.trans (ho.below hms)⟩
  · rw [hn] at hI
    have e : (fun y => if y = x then some (ptr gs) else (p' y).map ptr) = (fun y => ((if y = x then some gs else p' y) : Option Nat).map ptr) := by
      funext y
      by_cases hy : y = x <;> simp [hy]
    rw [e] at hI
    simpa using hI
  · rcases hO k hk9 with h9 | rfl
    · exact ⟨(h1.own k h9).1, by rw [ho.size]; exact (h1.own k h9).2⟩
    · exact ⟨Nat.le_trans h.below.size hgs, by rw [ho.size]; exact hk.lt⟩
  · by_cases hyx : y = x
    · rw [hyx]; exact hx
    · rw [if_neg hyx] at hy; exact h.ok y k hy
  · by_cases hyx : y = x
    · rw [if_pos hyx] at hy
      obtain rfl := Option.some.inj hy
      rw [hyx]
      exact hk.only ho (ne hk)
    · rw [if_neg hyx] at hy
      exact (h1.blk y k hy).only ho (ne (h1.blk y k hy))
  · by_cases hyx : y = x <;> by_cases hzx : z = x
    · rw [hyx, hzx]
    · rw [if_pos hyx] at hy
      rw [if_neg hzx] at hz
      have := Option.some.inj hy
      have := (h.blk z k hz).lt
      omega
    · rw [if_neg hyx] at hy
      rw [if_pos hzx] at hz
      have := Option.some.inj hz
      have := (h.blk y k hy).lt
      omega
    · rw [if_neg hyx] at hy
      rw [if_neg hzx] at hz
      exact h.inj y z k hy hz
  · rcases h1.row.2 with ⟨rfl, _⟩ | ⟨k', cap, cur, rfl, _, hh, _⟩
    · cases h9
    · obtain rfl : k' = k := Option.some.inj h9
      exact ne (e := 61) (cs := cur.toList) ⟨by simpa using hh⟩
  · have C : Chg (fun k => k = ms) w1 w2 := Chg.of_only ho rfl
    have h5 : TrL w1 (fun k => M k ∨ CpO ms g vt (fun y => if y = x then some gs else p' y) k) L t.tr := h.heads.chg (S := fun _ => False) (Chg.of_below _ hb) (fun _ h => h.elim) (fun k hk9 => by
      rcases hk9 with h9 | h9
      · exact .inl (.inl h9)
      · rcases hO k h9 with h8 | rfl
        · exact .inl (.inr h8)
        · exact .inr hgs)
    exact h5.chg C (fun k e => .inr (.inr (.inl e))) (fun _ h => .inl h)
/-- all slots are laid -/
theorem CpI.parts (h : CpI w wr M t ms g vt L nn p') (hP : Parts w O M b ad t p L0) (hn : nn = 2 * t.n) (hall : ∀ x, okP x → (p' x).isSome = (p x).isSome) : Parts wr (CpO ms g vt p') (fun k => M k ∨ CpO ms g vt p' k) g ⟨ms, none, .slice none 0 0, .slice none 0 0, vt⟩ (cp0 t) p' L := by
  have hs : ∀ x, (p' x).isSome = inR t.n x := fun x => by
    by_cases hx : okP x
    · rw [hall x hx]; exact hP.slots.has x
    · have h1 : p' x = none := by
        cases h9 : p' x with
        | none => rfl
        | some k => exact absurd (h.ok x k h9) hx
      rw [h1, Option.isSome_none]
      symm
      cases h2 : inR t.n x with
      | false => rfl
      | true =>
        exfalso
        apply hx
        have hbig := hP.big
        unfold inR at h2
        simp only [Bool.and_eq_true, decide_eq_true_eq] at h2
        exact ⟨WalkArith.wf_i64 (by omega), WalkArith.wf_i64 (by omega)⟩
  refine ⟨fun k hk => .inr hk, fun k hk => ?_, .inl rfl, h.world, ⟨.inr (.inl rfl), hn ▸ h.map, hs, fun x k hk => .inr (.inr (.inr ⟨x, hk⟩)), h.blk, fun x k hk => ?_, h.inj⟩, .inl ⟨rfl, fun _ _ => rfl⟩, ⟨none, 0, 0, rfl, BsM.zero _ _⟩, ⟨none, 0, 0, rfl, BsM.zero _ _⟩, ⟨h.row, fun k hk => .inr (.inr (.inl hk)), h.heads⟩, hP.big, hP.pow, hP.num, Nat.zero_le _, by simp⟩
  · rcases hk with h9 | h9
    · exact Nat.lt_of_lt_of_le (hP.lt k h9) h.below.size
    · exact (h.own k h9).2
  · have h1 : (p x).isSome = true := by rw [← hall x (h.ok x k hk), hk]; rfl
    obtain ⟨k2, hk2⟩ := Option.isSome_iff_exists.1 h1
    exact hP.slots.len x k2 hk2
/-- the World's own block turns, seals and all -/
theorem Parts.own2 {t' : Wd} (h : Parts w O M b ad t p L) (ho : Only b w w1) (hk : Blk w1 b 75 (wdCells ad' t')) (ha : ad'.ms = ad.ms) (ha2 : ad'.ml = ad.ml) (ha3 : ad'.vt = ad.vt) (hn : t'.n = t.n) (hs : t'.sl = t.sl) (h0 : BsV w M ad'.v0 t'.s0) (h1 : BsV w M ad'.v1 t'.s1) (hl : t'.lies = t.lies) (hnl : t'.nl = t.nl) (htr : t'.tr = t.tr)
    (hp : t'.left ≤ 1000000) (hc : t'.ctr < 18446744073709551616) (hr : t'.reads ≤ 2000000) : Parts w1 O M b ad' t' p L := by
  have C : Chg O w w1 := Chg.of_only ho h.ob
  refine ⟨h.sub, fun k hk => Nat.lt_of_lt_of_le (h.lt k hk) C.size, h.ob, hk, ?_, ?_, ?_, ?_, ?_, by rw [hn]; exact h.big, hp, hc, hr, by rw [ha, ha2]; exact h.two⟩
  · rw [hn, hs, ha]
    refine h.slots.stay (fun _ h => h) (fun k _ hkk => ho.block k ?_)
    rcases hkk with hkk | hkk
    · exact hkk.ne h.blk.row
    · exact hkk.ne h.blk.row (by decide)
  · rw [hl, hnl, ha2]; exact h.lies.stay (fun _ h => h) (fun k _ hkk => ho.block k (hkk.ne h.blk.row)) C h.sub (fun _ h => .inl h)
  · exact h0.chg C h.sub (fun _ h => .inl h)
  · exact h1.chg C h.sub (fun _ h => .inl h)
  · rw [htr, ha3]; exact h.trace.stay (fun _ h => h) (fun k _ hkk => ho.block k (hkk.ne h.blk.row (by decide))) C h.sub (fun _ h => .inl h)
end
end Go.Proofs.Ytpbpegoobgfjcaa

namespace Go.Proofs.Ytpbpegoobgfjcaa
open Go.RowKit

/-- an element's type: of one cell, and no array or struct -/
structure Plain1 (P : Program) (e : TypeId) : Prop where
  size : (P.info? e).map (·.size) = some 1
  plain : (match P.underlying e with | some (.int _) => true | some .bool => true | some .string => true | some (.slice _) => true | some (.pointer _) => true | _ => false) = true
theorem run_index_agg {P : Program} {t e : TypeId} {n : Nat} (ht : P.underlying t = some (.array n e)) (E : Plain1 P e) (cs : List Value) (k : IntKind) (i : Nat) (hi : i < n) (v : Value) (hv : cs[i]? = some v) (w : World) :
    (Instr.index t (.agg cs.toArray) (.int k (i : Int))).run P w = .ok v w := by
  have hin : (0 : Int) ≤ (i : Int) ∧ (i : Int) < (n : Int) := by omega
  obtain ⟨inf, hinf, hsz⟩ : ∃ inf, P.info? e = some inf ∧ inf.size = 1 := by
    have h := E.size
    cases hq : P.info? e with
    | none => simp [hq] at h
    | some x => exact ⟨x, rfl, by simpa [hq] using h⟩
  have hs : (Go.sizeOf e).run P w = .ok 1 w := by simp [Go.sizeOf, typeInfo, hinf, hsz]
  have hp : (part e cs.toArray i).run P w = .ok v w := by
    have hpl := E.plain
    unfold part
    cases hu : P.underlying e with
    | none => rw [hu] at hpl; simp at hpl
    | some d =>
      rw [hu] at hpl
      cases d <;> simp at hpl <;> simp [isAgg, run_underlying hu, hv]
  simp only [Instr.index, asIntOf, Sem.run_bind, Sem.run_pure, Result.andThen_ok, run_underlying ht, if_pos hin, hs, Int.toNat_natCast, Nat.mul_one, hp]

section
variable {P : Program} {w : World} {ops : Array Oper} {rest : List Oper} {o : Oper} {a : Act} {Q : Exit → Act → World → Prop} {t e : TypeId}
theorem wpList_index {n : Nat} (ht : P.underlying t = some (.array n e)) (E : Plain1 P e) (hg : o.guard = none) (x j : Operand) (hop : o.op = .index t x j) {cs : List Value} (hx : a.eval x = .agg cs.toArray) {k : IntKind} {I : Int} (hj : a.eval j = .int k I) (i : Nat) (hI : I = (i : Int)) (hi : i < n) {v : Value} (hv : cs[i]? = some v)
    (h : wpList P ops Q rest (a.put o.dst v) w) : wpList P ops Q (o :: rest) a w := by
  subst hI
  refine wpList_plain hg fun K hK => ?_
  unfold Oper.wp
  simp only [execOp, hop, hx, hj, Sem.run_bind, run_index_agg ht E cs k i hi v hv, Result.andThen_ok, Sem.run_pure]
  exact hK _ _ h
end
end Go.Proofs.Ytpbpegoobgfjcaa
