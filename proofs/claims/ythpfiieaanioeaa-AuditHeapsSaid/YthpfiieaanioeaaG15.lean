/- What the chapter's example fixes.
   The walk of AuditMinus; how much room a slice may have.
   Things at places that came in: a list of them, or one by value, opened. No program is named here.
   Rows of what was traced that a call lays itself; how much there is of it.
   Numbers of 256 bits, byte by byte. No program is named here.
   The contract of package sum's Less.
   The contract of package sum's Sub.
   The contract of the law package's known; laws for arrays built of nothing.
   The document's Add, Sub and Less of the fifth chapter. -/
import Derived.Test.YthpfiieaanioeaaG12
import Derived.Test.YthpfiieaanioeaaG14
import Derived.Test.YthpfiieaanioeaaG01
import Derived.Test.YthpfiieaanioeaaG02
import Derived.Test.YthpfiieaanioeaaG03
import Derived.Test.YthpfiieaanioeaaG04
import Derived.Test.YthpfiieaanioeaaG08
namespace Go.Proofs.Ythpfiieaanioeaa
open Go.RowKit

theorem own_blk {w : World} {g : Nat} {e : TypeId} {L : List Hd} (h : Blk w g e (hdCells L)) (hn : L.length ≤ maxLen) : w.ownsRow 0 e 2 (.slice (some ⟨g, 0, none⟩) L.length L.length) L.length (hdCells L) := by
  refine ⟨hdCells_length L, .inr ⟨g, L.length, (hdCells L).toArray, rfl, Nat.zero_le _, h.heap, Nat.le_refl _, hn, by simp [hdCells_length], ?_⟩⟩
  rw [List.take_of_length_le (by simp [hdCells_length])]
theorem its_blk {w : World} {g : Nat} {e : TypeId} {L : List Hd} {its : List Th} (h : Blk w g e (hdCells L)) (hn : L.length ≤ maxLen) (hL : Leads w w.heap.size L its) : Its w w.heap.size (some ⟨g, 0, none⟩) L.length L.length its := by
  obtain ⟨A, c, e1, h1⟩ := Its.of_own (own_blk h hn) hL (Nat.le_refl _)
  injection e1 with e2 _ e3
  subst e2
  rw [← e3] at h1
  exact h1
theorem lead0 (w : World) (B : Nat) (z : Int) (hz : (Lit.int .i64 z).wf = true) : Leads w B [(z, none, 0, 0)] [(z, [])] := Leads.one hz (Bs.zero _ _)
theorem known_minus : minusL [((1 : Int), []), (2, []), (1, [])] [(1, [])] = [(2, []), (1, [])] := by decide
theorem known_same : sameL [((2 : Int), []), (1, [])] [(1, []), (2, [])] = true := by decide
theorem trs_nil (w : World) (B : Nat) : Trs w B none 0 0 [] := ⟨rfl, Nat.le_refl _, Nat.zero_le _, fun _ => rfl, (fun x h => by cases h), fun h => absurd h (by omega)⟩
set_option maxRecDepth 100000 in
set_option maxHeartbeats 4000000 in
theorem known_any (w : World) : Calls Try.prog 8 #[] w fun e w' => e = .returned (.bool true) ∧ Below w.heap.size w w' := by
  have h1 : (Lit.int .i64 1).wf = true := by decide
  have h2 : (Lit.int .i64 2).wf = true := by decide
  have H1 : Kp _ := ⟨h1⟩
  have H2 : Kp _ := ⟨h2⟩
  clear h1 h2
  go_enter Try.func8, Try.ntmps8
  go_wp2_with fail
  have hb1 : Below w.heap.size w (w.alloc (.cells #[.int .i64 1, .slice none 0 0] 30)) := (Below.refl _ _).alloc (Nat.le_refl _) _
  have hb2 := hb1.alloc (by simp) (.cells #[.int .i64 2, .slice none 0 0] 30)
  have hb3 := hb2.alloc (by simp; omega) (.cells #[.int .i64 1, .slice none 0 0, .int .i64 2, .slice none 0 0, .int .i64 1, .slice none 0 0] 30)
  have hb4 := hb3.alloc (by simp; omega) (.cells #[.int .i64 1, .slice none 0 0] 30)
  have k1 := (((Blk.new w 30 [.int .i64 1, .slice none 0 0]).alloc (.cells #[.int .i64 2, .slice none 0 0] 30)).alloc (.cells #[.int .i64 1, .slice none 0 0, .int .i64 2, .slice none 0 0, .int .i64 1, .slice none 0 0] 30)).alloc (.cells #[.int .i64 1, .slice none 0 0] 30)
  have k2 := ((Blk.new (w.alloc (.cells #[.int .i64 1, .slice none 0 0] 30)) 30 [.int .i64 2, .slice none 0 0]).alloc (.cells #[.int .i64 1, .slice none 0 0, .int .i64 2, .slice none 0 0, .int .i64 1, .slice none 0 0] 30)).alloc (.cells #[.int .i64 1, .slice none 0 0] 30)
  have k3 := (Blk.new ((w.alloc (.cells #[.int .i64 1, .slice none 0 0] 30)).alloc (.cells #[.int .i64 2, .slice none 0 0] 30)) 30 [.int .i64 1, .slice none 0 0, .int .i64 2, .slice none 0 0, .int .i64 1, .slice none 0 0]).alloc (.cells #[.int .i64 1, .slice none 0 0] 30)
  have k4 := Blk.new (((w.alloc (.cells #[.int .i64 1, .slice none 0 0] 30)).alloc (.cells #[.int .i64 2, .slice none 0 0] 30)).alloc (.cells #[.int .i64 1, .slice none 0 0, .int .i64 2, .slice none 0 0, .int .i64 1, .slice none 0 0] 30)) 30 [.int .i64 1, .slice none 0 0]
  simp only [World.size_alloc] at k1 k2 k3 k4
  generalize hw4 : (((w.alloc (.cells #[.int .i64 1, .slice none 0 0] 30)).alloc (.cells #[.int .i64 2, .slice none 0 0] 30)).alloc (.cells #[.int .i64 1, .slice none 0 0, .int .i64 2, .slice none 0 0, .int .i64 1, .slice none 0 0] 30)).alloc (.cells #[.int .i64 1, .slice none 0 0] 30) = w4 at *
  clear hw4 hb1 hb2 hb3
  have hI : Its w4 w4.heap.size (some ⟨w.heap.size + 1 + 1, 0, none⟩) 3 3 [(1, []), (2, []), (1, [])] := its_blk (L := [(1, none, 0, 0), (2, none, 0, 0), (1, none, 0, 0)]) k3 (by simp [maxLen]) (((lead0 w4 _ 1 H1.out).append (lead0 w4 _ 2 H2.out)).append (lead0 w4 _ 1 H1.out))
  have hK : Its w4 w4.heap.size (some ⟨w.heap.size + 1 + 1 + 1, 0, none⟩) 1 1 [(1, [])] := its_blk (L := [(1, none, 0, 0)]) k4 (by simp [maxLen]) (lead0 w4 _ 1 H1.out)
  have hM := minus_any _ 3 3 _ _ 1 1 _ w4 hI hK (by omega) (by omega) (by intro x hx; simp at hx; rcases hx with rfl | rfl | rfl <;> simp)
  rw [known_minus] at hM
  refine hM.mono ?_
  rintro e w5 ⟨A5, c5, rfl, hI5, hb5⟩
  have hB5 : Below w.heap.size w w5 := hb4.trans (hb5.mono hb4.size)
  have HI5 : Kp _ := ⟨hI5⟩
  have HK1 : Kp (Blk w5 w.heap.size 30 [.int .i64 1, .slice none 0 0]) := ⟨k1.below hb5 k1.lt⟩
  have HK2 : Kp (Blk w5 (w.heap.size + 1) 30 [.int .i64 2, .slice none 0 0]) := ⟨k2.below hb5 k2.lt⟩
  obtain ⟨b5, o5, A6, n6, c6, rfl, y5, d0, d1, x5⟩ := hI5.at (i := 0) (by simp)
  obtain ⟨b6, o6, A7, n7, c7, e6, y6, d2, d3, x6⟩ := hI5.at (i := 1) (by simp)
  obtain ⟨rfl, rfl⟩ : b6 = b5 ∧ o6 = o5 := by
    have := Option.some.inj e6
    injection this with e7 e8
    exact ⟨e7.symm, e8.symm⟩
  have d0' : w5.cell? ⟨b6, o6, none⟩ = some (.int .i64 2) := by simpa using d0
  have d2' : w5.cell? ⟨b6, o6 + 2, none⟩ = some (.int .i64 1) := by simpa using d2
  have f10 : w5.cell? ⟨w.heap.size, 0, none⟩ = some (.int .i64 1) := HK1.out.cell? 0
  have f11 : w5.cell? ⟨w.heap.size, 1, none⟩ = some (.slice none 0 0) := HK1.out.cell? 1
  have f20 : w5.cell? ⟨w.heap.size + 1, 0, none⟩ = some (.int .i64 2) := HK2.out.cell? 0
  have f21 : w5.cell? ⟨w.heap.size + 1, 1, none⟩ = some (.slice none 0 0) := HK2.out.cell? 1
  clear x5 x6 y5 y6 hI hK hM k1 k2 k3 k4 hb4 hb5 hI5 e6 d0 d1 d2 d3
  simp only [List.length_cons, List.length_nil, Nat.zero_add, Nat.reduceAdd]
  go_wp2_with fail
  have k6 := Blk.new w5 30 [.int .i64 1, .slice none 0 0, .int .i64 2, .slice none 0 0]
  have hb6 : Below w5.heap.size w5 (w5.alloc (.cells #[.int .i64 1, .slice none 0 0, .int .i64 2, .slice none 0 0] 30)) := (Below.refl _ _).alloc (Nat.le_refl _) _
  have hB6 : Below w.heap.size w (w5.alloc (.cells #[.int .i64 1, .slice none 0 0, .int .i64 2, .slice none 0 0] 30)) := hB5.trans (hb6.mono hB5.size)
  have HI6 : Kp _ := ⟨HI5.out.next hb6 (Nat.le_refl _)⟩
  change Blk (w5.alloc (.cells #[.int .i64 1, .slice none 0 0, .int .i64 2, .slice none 0 0] 30)) _ _ _ at k6
  generalize w5.alloc (.cells #[.int .i64 1, .slice none 0 0, .int .i64 2, .slice none 0 0] 30) = w6 at *
  have hJ : Its w6 w6.heap.size (some ⟨w5.heap.size, 0, none⟩) 2 2 [(1, []), (2, [])] := its_blk (L := [(1, none, 0, 0), (2, none, 0, 0)]) k6 (by simp [maxLen]) ((lead0 w6 _ 1 H1.out).append (lead0 w6 _ 2 H2.out))
  have hS := same_any _ 2 c5 _ _ 2 2 _ w6 HI6.out hJ (by omega) (by omega) (by intro x hx; simp at hx; rcases hx with rfl | rfl <;> simp)
  rw [known_same] at hS
  refine hS.mono ?_
  rintro e w7 ⟨rfl, hb7⟩
  have hB7 : Below w.heap.size w w7 := hB6.trans (hb7.mono hB6.size)
  clear hS hJ k6 hb6 hB6 HI6 hb7 hB5 HI5 HK1 HK2 d0' d2' f10 f11 f20 f21
  go_wp2_with fail
  have hT := straight_any none 0 0 [] w7 (trs_nil _ _) (by omega)
  rw [show strL [] = -1 from rfl] at hT
  refine hT.mono ?_
  rintro e w8 ⟨rfl, hb8⟩
  have hB8 : Below w.heap.size w w8 := hB7.trans (hb8.mono hB7.size)
  clear hT hb8 hB7
  go_wp2_with fail
  refine (epochs_nil w8).mono ?_
  rintro e w9 ⟨A9, c9, rfl, hb9⟩
  have hB9 : Below w.heap.size w w9 := hB8.trans (hb9.mono hB8.size)
  clear hb9 hB8
  go_wp2
  go_ret
  exact ⟨rfl, hB9⟩
end Go.Proofs.Ythpfiieaanioeaa

namespace Go.Proofs.Ythpfiieaanioeaa
open Go.RowKit

section
open Go.ChangeShapes Go.WideShapes Go.ChangeAt
/-- a slice's room, by the reach -/
theorem room_open {H : Type} {P : Program} {enc : TypeId × Value → H} {W : World} {t e : TypeId} {a : Option Addr} {len cap k : Nat} {d : DataW H} {p : List MemPlace} (ht : P.underlying t = some (.slice e)) (hb : P.bytesOf e = k) (h : DataW.Trod enc P W 0 (fun _ => true) true t (.slice a len cap) d p) (hr : ∀ n ∈ d.weights P t, n ≤ reachBytes) : cap * k ≤ 140737488351232 := by
  obtain ⟨fuel, hf⟩ := h
  rcases DataW.trod_slice ht hf with ⟨hcs, _⟩ | ⟨a', l', c', elems, rest, n, _, hcs, hx, _, hl, _, hlen, _, hsp, _⟩
  · simp [Value.cells] at hcs
    obtain ⟨_, _, rfl⟩ := hcs
    omega
  · simp [Value.cells] at hcs
    obtain ⟨_, rfl, rfl⟩ := hcs
    obtain ⟨rfl, _⟩ := Prod.mk.inj hx
    have h1 := slice_reach ht hr
    have h2 := (hsp rfl).1
    rw [List.length_map, List.length_map, hlen, h2, hb] at h1
    rw [show len + (cap - len) = cap by omega] at h1
    exact h1
end
theorem its_nil (w : World) (B : Nat) : Its w B none 0 0 [] := ⟨rfl, Nat.le_refl _, Nat.zero_le _, fun _ => rfl, (fun x hx => by cases hx), fun h => absurd h (by omega)⟩
/-- how many bytes there are -/
def lenN (its : List Th) : Nat := (its.map fun x => x.2.length).sum
theorem lenN_next (its : List Th) (k : Nat) (h : k < its.length) : lenN (its.take (k + 1)) = lenN (its.take k) + its[k].2.length := by
  unfold lenN
  rw [List.take_succ_eq_append_getElem h, List.map_append, List.sum_append]
  simp
theorem lenN_mem (its : List Th) : ∀ x ∈ its, x.2.length ≤ lenN its := by
  induction its with
  | nil => intro x h; cases h
  | cons y ys ih =>
    intro x h
    have e : lenN (y :: ys) = y.2.length + lenN ys := by simp [lenN]
    rw [e]
    rcases List.mem_cons.1 h with rfl | h
    · omega
    · have := ih x h; omega
theorem lenN_le (its : List Th) (M : Nat) (h : ∀ x ∈ its, x.2.length ≤ M) (k : Nat) (hk : k ≤ its.length) : lenN (its.take k) ≤ k * M := by
  induction k with
  | zero => simp [lenN]
  | succ k ih =>
    rw [lenN_next its k (by omega)]
    have := h _ (List.getElem_mem (show k < its.length by omega))
    have := ih (by omega)
    rw [Nat.succ_mul]; omega
set_option maxRecDepth 100000 in
set_option maxHeartbeats 4000000 in
theorem law_auditMinus (A : Option Addr) (n c : Nat) (its : List Th) (B : Option Addr) (m d : Nat) (bs : List Th) (W : World) (hI : Its W W.heap.size A n c its ∧ ∀ x ∈ its, x.2.length ≤ 140737488351232) (hK : Its W W.heap.size B m d bs ∧ ∀ x ∈ bs, x.2.length ≤ 140737488351232) (r0 : c * 32 ≤ 140737488351232) (r1 : d * 32 ≤ 140737488351232) :
    Calls Try.prog 5 #[.slice A n c, .slice B m d] W fun e w' => e = .returned (.bool true) ∧ Below W.heap.size W w' := by
  have HI : Kp _ := ⟨hI.1⟩
  have HIb : Kp _ := ⟨hI.2⟩
  have HK : Kp _ := ⟨hK.1⟩
  have HKb : Kp _ := ⟨hK.2⟩
  have hn : n ≤ 4398046510976 := by have := hI.1.cap; omega
  have hm : m ≤ 4398046510976 := by have := hK.1.cap; omega
  have HIl : Kp (its.length = n) := ⟨hI.1.len⟩
  have HKl : Kp (bs.length = m) := ⟨hK.1.len⟩
  clear hI hK r0 r1
  go_enter Try.func5, Try.ntmps5
  by_cases h40 : (40 : Int) < (n : Int) + (m : Int)
  · go_wp2_with fail
    refine (known_any _).mono ?_
    rintro e wz ⟨rfl, hz⟩
    go_wp2
    go_ret
    exact ⟨rfl, hz⟩
  have hn40 : n ≤ 40 := by omega
  have hm40 : m ≤ 40 := by omega
  go_wp2
  go_loop [5, 6] (fun s i => ∃ k : Nat, k ≤ n ∧ i = .int .i64 k ∧ s = .int .i64 ((lenN (its.take k) : Nat) : Int)) (fun _ i => n - (intOf i).toNat)
  case atStart => exact ⟨0, Nat.zero_le _, rfl, rfl⟩
  case round =>
    obtain ⟨k, hk, rfl, rfl⟩ := hrel
    by_cases hlt : k < n
    · obtain ⟨b, o, A', n', c', rfl, _, hc1, hc2, hbs⟩ := HI.out.at hlt
      have hki : k < its.length := by rw [HIl.out]; exact hlt
      have HNx : Kp _ := ⟨lenN_next its k hki⟩
      have h1 := lenN_le its 140737488351232 HIb.out k (by omega)
      have h2 := HIb.out _ (List.getElem_mem hki)
      have h3 : (its[k]'hki).2.length = n' := hbs.len
      rw [h3] at h2 HNx
      have h4 : lenN (its.take k) ≤ 5629499534049280 := Nat.le_trans h1 (by omega)
      have hn63 := hbs.le
      generalize lenN (its.take k) = s at *
      clear h1 h3 hbs
      go_wp2
      go_round
      case rel => exact ⟨k + 1, by omega, by go_num, by rw [HNx.out]; go_num⟩
      case measure => simp [intOf]; omega
    · obtain rfl : k = n := by omega
      have HE : Kp (its.take k = its) := ⟨List.take_of_length_le (by rw [HIl.out]; exact Nat.le_refl _)⟩
      rw [HE.out]
      have h1 : lenN its ≤ 5629499534049280 := by
        have h := lenN_le its 140737488351232 HIb.out its.length (Nat.le_refl _)
        rw [List.take_length, HIl.out] at h
        exact Nat.le_trans h (by omega)
      have HMa : Kp (∀ x ∈ its, x.2.length ≤ lenN its) := ⟨lenN_mem its⟩
      generalize lenN its = s0 at *
      go_wp2
      go_loop [5, 7] (fun s i => ∃ j : Nat, j ≤ m ∧ i = .int .i64 j ∧ s = .int .i64 ((s0 + lenN (bs.take j) : Nat) : Int)) (fun _ i => m - (intOf i).toNat)
      case atStart => exact ⟨0, Nat.zero_le _, rfl, rfl⟩
      case round =>
        obtain ⟨j, hj, rfl, rfl⟩ := hrel
        by_cases hlt : j < m
        · obtain ⟨b, o, A', n', c', rfl, _, hc1, hc2, hbs⟩ := HK.out.at hlt
          have hki : j < bs.length := by rw [HKl.out]; exact hlt
          have HNx : Kp _ := ⟨lenN_next bs j hki⟩
          have h5 := lenN_le bs 140737488351232 HKb.out j (by omega)
          have h2 := HKb.out _ (List.getElem_mem hki)
          have h3 : (bs[j]'hki).2.length = n' := hbs.len
          rw [h3] at h2 HNx
          have h4 : s0 + lenN (bs.take j) ≤ 11258999068098560 := by have : lenN (bs.take j) ≤ 5629499534049280 := Nat.le_trans h5 (by omega); omega
          have hn63 := hbs.le
          obtain ⟨s, hs⟩ : ∃ s, s = s0 + lenN (bs.take j) := ⟨_, rfl⟩
          have HNy : Kp (s0 + lenN (bs.take (j + 1)) = s + n') := ⟨by rw [HNx.out, hs]; omega⟩
          rw [← hs] at h4 ⊢
          clear h5 h3 hbs hs HNx
          go_wp2
          go_round
          case rel => exact ⟨j + 1, by omega, by go_num, by rw [HNy.out]; go_num⟩
          case measure => simp [intOf]; omega
        · obtain rfl : j = m := by omega
          have HE2 : Kp (bs.take j = bs) := ⟨List.take_of_length_le (by rw [HKl.out]; exact Nat.le_refl _)⟩
          rw [HE2.out]
          have h5 : lenN bs ≤ 5629499534049280 := by
            have h := lenN_le bs 140737488351232 HKb.out bs.length (Nat.le_refl _)
            rw [List.take_length, HKl.out] at h
            exact Nat.le_trans h (by omega)
          have HMb : Kp (∀ x ∈ bs, x.2.length ≤ lenN bs) := ⟨lenN_mem bs⟩
          generalize lenN bs = s1 at *
          obtain ⟨s, hs⟩ : ∃ s, s = s0 + s1 := ⟨_, rfl⟩
          rw [← hs]
          by_cases h15 : (1500 : Int) < (s : Int)
          · go_wp2_with fail
            refine (known_any _).mono ?_
            rintro e wz ⟨rfl, hz⟩
            go_wp2
            go_ret
            exact ⟨rfl, hz⟩
          · have HBa : Kp (∀ x ∈ its, x.2.length ≤ 4294967296) := ⟨fun x hx => by have := HMa.out x hx; omega⟩
            have HBb : Kp (∀ x ∈ bs, x.2.length ≤ 4294967296) := ⟨fun x hx => by have := HMb.out x hx; omega⟩
            clear HMa HMb h1 h5 hs HE HE2 HIb HKb hn hm hlt
            obtain ⟨hl1, hl2⟩ := minus_lengths its bs
            obtain ⟨p, hp⟩ : ∃ p, p = (minusL its bs).length := ⟨_, rfl⟩
            obtain ⟨q, hq⟩ : ∃ q, q = (minusL its (minusL its bs)).length := ⟨_, rfl⟩
            obtain ⟨r, hr⟩ : ∃ r, r = (minusL bs its).length := ⟨_, rfl⟩
            have HP : Kp (p = (minusL its bs).length) := ⟨hp⟩
            have HQ : Kp (q = (minusL its (minusL its bs)).length) := ⟨hq⟩
            have HR : Kp (r = (minusL bs its).length) := ⟨hr⟩
            rw [← hp, ← hq, HIl.out] at hl1
            rw [← hq, ← hr, HKl.out] at hl2
            clear hp hq hr
            go_wp2_with fail
            refine (minus_any A k c its B j d bs W HI.out HK.out (by omega) (by omega) HBa.out).mono ?_
            rw [← HP.out]
            rintro e w1 ⟨A1, c1, rfl, hI1, hb1⟩
            have HI1 : Kp _ := ⟨hI1⟩
            clear hI1
            go_wp2_with fail
            refine (minus_any A k c its A1 p c1 (minusL its bs) w1 (HI.out.next hb1 (Nat.le_refl _)) HI1.out (by omega) (by omega) HBa.out).mono ?_
            rw [← HQ.out]
            rintro e w2 ⟨A2, c2, rfl, _, hb2⟩
            have hB2 := hb1.trans (hb2.mono hb1.size)
            clear hb1 hb2
            go_wp2_with fail
            refine (minus_any B j d bs A k c its w2 (HK.out.next hB2 (Nat.le_refl _)) (HI.out.next hB2 (Nat.le_refl _)) (by omega) (by omega) HBb.out).mono ?_
            rw [← HR.out]
            rintro e w3 ⟨A3, c3, rfl, _, hb3⟩
            have hB3 := hB2.trans (hb3.mono hB2.size)
            clear hb3 hB2
            have g1 : (p : Int) + (q : Int) = (k : Int) := by omega
            have g2 : (q : Int) + (r : Int) = (j : Int) := by omega
            have g3 : p ≤ 40 := by omega
            have g4 : q ≤ 40 := by omega
            have g5 : r ≤ 40 := by omega
            clear hl1 hl2
            go_wp2_with fail
            refine (minus_any A k c its A k c its w3 (HI.out.next hB3 (Nat.le_refl _)) (HI.out.next hB3 (Nat.le_refl _)) (by omega) (by omega) HBa.out).mono ?_
            rw [minus_self]
            rintro e w4 ⟨A4, c4, rfl, _, hb4⟩
            have hB4 := hB3.trans (hb4.mono hB3.size)
            clear hb4 hB3
            simp only [List.length_nil]
            go_wp2_with fail
            refine (minus_any A k c its none 0 0 [] w4 (HI.out.next hB4 (Nat.le_refl _)) (its_nil _ _) (by omega) (by omega) HBa.out).mono ?_
            rw [minus_nil, HIl.out]
            rintro e w5 ⟨A5, c5, rfl, _, hb5⟩
            have hB5 := hB4.trans (hb5.mono hB4.size)
            clear hb5 hB4
            go_wp2_with fail
            refine (known_any _).mono ?_
            rintro e wz ⟨rfl, hz⟩
            have hBz := hB5.trans (hz.mono hB5.size)
            clear hz hB5
            go_wp2
            go_ret
            exact ⟨rfl, hBz⟩
end Go.Proofs.Ythpfiieaanioeaa

namespace Go.Proofs.Ythpfiieaanioeaa
open Go.ChangeShapes Go.WideShapes Go.ChangeAt Go.RowKit Go.Deep

/-- the shape of a thing: a place, and bytes -/
structure ItemT (P : Program) (e q : TypeId) (f0 f1 : Field) : Prop where
  ty : P.underlying e = some (.struct #[f0, f1])
  t0 : P.underlying f0.type = some (.int .i64)
  t1 : P.underlying f1.type = some (.slice q)
  tq : P.underlying q = some (.int .u8)
  o0 : f0.offset = 0
  o1 : f1.offset = 1
  c0 : P.cellsOf f0.type = 1
  c1 : P.cellsOf f1.type = 1
  cq : P.cellsOf q = 1
  ce : P.cellsOf e = 2
  bq : P.bytesOf q = 1
section
variable {H : Type} {P : Program} {enc : TypeId × Value → H} {W : World} {t e q : TypeId} {a : Option Addr} {len cap : Nat} {d : DataW H} {p : List MemPlace} {f0 f1 : Field}
/-- one of them -/
theorem item_read (E : ItemT P e q f0 f1) {fuel : Nat} {cs : List Value} {x : DataW H × List MemPlace} (h : DataW.trod enc P W 0 (fun _ => true) true fuel e cs = some x) (hr : ∀ n ∈ x.1.weights P e, n ≤ reachBytes) :
    ∃ (z : Int) (A : Option Addr) (m c : Nat) (l : List UInt8), cs = [.int .i64 z, .slice A m c] ∧ (Lit.int .i64 z).wf = true ∧ Bs W W.heap.size A m c l ∧ l.length ≤ 140737488351232 := by
  obtain ⟨xs, n, _, hx, hlen, hxl, hel⟩ := DataW.trod_struct E.ty h
  rw [E.ce] at hlen
  have k0 := hel 0 f0 rfl
  have k1 := hel 1 f1 rfl
  rw [E.o0, E.c0, List.drop_zero] at k0
  rw [E.o1, E.c1] at k1
  match cs, hlen with
  | [u, v], _ =>
    match xs, hxl with
    | [x0, x1], _ =>
      obtain ⟨z, e1, e2, hw⟩ := DataW.trod_int E.t0 k0
      simp only [List.take_succ_cons, List.take_zero, List.cons.injEq, and_true] at e1
      subst e1
      have hr1 : ∀ n ∈ x1.1.weights P f1.type, n ≤ reachBytes := fun n hn => hr n (by
        rw [hx]
        simp only [List.map_cons, List.map_nil, DataW.weights, E.ty, DataW.weightsEach]
        simp [hn])
      have k1' : DataW.trod enc P W 0 (fun _ => true) true n f1.type [v] = some x1 := by simpa using k1
      rcases open_ints E.t1 E.tq E.cq k1' with ⟨hcs, _⟩ | ⟨y, l, c, zs, hcs, _, hl, hm, hz, hxx, hcell, hwz⟩
      · simp only [List.cons.injEq, and_true] at hcs
        subst hcs
        exact ⟨z, none, 0, 0, [], rfl, hw, Bs.zero _ _, by simp⟩
      · simp only [List.cons.injEq, and_true] at hcs
        subst hcs
        have hz' : zs.length = c := by simpa using hz
        have h1 := hr1
        rw [hxx] at h1
        have h2 := slice_reach E.t1 h1
        rw [E.bq] at h2
        simp only [lits, List.length_map, List.length_take, List.length_drop, reachBytes] at h2
        have hbs := bs_of_cells hl hm hz' hcell hwz
        exact ⟨z, some y, l, c, _, rfl, hw, hbs, by rw [hbs.len]; omega⟩
/-- one by value -/
theorem item_open (E : ItemT P e q f0 f1) {r : Reach} {b0 : Nat} {v : Value} (hval : Value.okWide P W r b0 e v) (h : DataW.Trod enc P W 0 (fun _ => true) true e v d p) (hr : ∀ n ∈ d.weights P e, n ≤ reachBytes) :
    ∃ (z : Int) (A : Option Addr) (m c : Nat) (l : List UInt8), v = .agg #[.int .i64 z, .slice A m c] ∧ (Lit.int .i64 z).wf = true ∧ Bs W W.heap.size A m c l ∧ l.length ≤ 140737488351232 := by
  obtain ⟨cs, rfl, hs⟩ := okWide_struct E.ty hval
  obtain ⟨fuel, hf⟩ := h
  obtain ⟨z, A, m, c, l, e1, h1, h2, h3⟩ := item_read E hf hr
  refine ⟨z, A, m, c, l, ?_, h1, h2, h3⟩
  obtain ⟨cl⟩ := cs
  simp [Value.cells] at e1
  rw [e1]
/-- a list of them -/
theorem its_open (E : ItemT P e q f0 f1) (ht : P.underlying t = some (.slice e)) (h : DataW.Trod enc P W 0 (fun _ => true) true t (.slice a len cap) d p) (hr : ∀ n ∈ d.weights P t, n ≤ reachBytes) :
    ∃ its, Its W W.heap.size a len cap its ∧ (∀ x ∈ its, x.2.length ≤ 140737488351232) := by
  obtain ⟨fuel, hf⟩ := h
  rcases DataW.trod_slice ht hf with ⟨hcs, _⟩ | ⟨a', l', c', elems, rest, n, _, hcs, hx, hb, hl, hm, hlen, hel, _, _⟩
  · simp [Value.cells] at hcs
    obtain ⟨rfl, rfl, rfl⟩ := hcs
    exact ⟨[], ⟨rfl, Nat.le_refl _, Nat.zero_le _, fun _ => rfl, (fun x hx => by cases hx), fun h => absurd h (by omega)⟩, fun x hx => by cases hx⟩
  · simp [Value.cells] at hcs
    obtain ⟨rfl, rfl, rfl⟩ := hcs
    obtain ⟨rfl, _⟩ := Prod.mk.inj hx
    have each : ∀ r, r < len → ∃ y : (Int × List UInt8) × (Option Addr × Nat × Nat), W.cell? (a'.add (r * 2)) = some (.int .i64 y.1.1) ∧ W.cell? (a'.add (r * 2 + 1)) = some (.slice y.2.1 y.2.2.1 y.2.2.2) ∧ (Lit.int .i64 y.1.1).wf = true ∧ Bs W W.heap.size y.2.1 y.2.2.1 y.2.2.2 y.1.2 ∧ y.1.2.length ≤ 140737488351232 := by
      intro r hr'
      have h1 := hel r hr'
      rw [E.ce, List.getElem?_eq_getElem (by omega)] at h1
      obtain ⟨cs, hc, ht2⟩ := Option.bind_eq_some_iff.1 h1
      obtain ⟨z, A, m, c, l, e1, h2, h3, h4⟩ := item_read E ht2 (slice_reach_in ht hr _ (List.mem_map.2 ⟨_, List.getElem_mem (by omega), rfl⟩))
      have hcell := (World.cells?_some hc).2.2
      subst e1
      refine ⟨((z, l), (A, m, c)), ?_, ?_, h2, h3, h4⟩
      · have h5 := hcell 0 (by omega)
        rw [add_none] at h5
        exact h5
      · have h5 := hcell 1 (by omega)
        have e5 : (a'.add (r * 2)).add 1 = a'.add (r * 2 + 1) := by
          by_cases h0 : r * 2 = 0
          · rw [h0, add_none]
          · simp [Addr.add, h0, Nat.add_assoc]
        rw [e5] at h5
        exact h5
    obtain ⟨y, hy⟩ := choose_lt each
    refine ⟨(List.range len).map fun r => (y r).1, ⟨by simp, hl, hm, (fun h => by cases h), fun x hx => ?_, fun h0 => ?_⟩, fun x hx => ?_⟩
    · obtain ⟨r, hr1, rfl⟩ := List.mem_map.1 hx
      exact (hy r (List.mem_range.1 hr1)).2.2.1
    · have h1 := (hy 0 h0).1
      rw [Nat.zero_mul, add_none] at h1
      have hs := spot_of_cell h1
      refine ⟨a'.block, a'.off, by rw [← addr_lit hs], World.block_lt_of_cell? W a' h1, fun j hj => ?_⟩
      have hj' : j < len := by simpa using hj
      obtain ⟨k1, k2, _, k3, _⟩ := hy j hj'
      rw [addr_lit hs, Addr.add_lit] at k1 k2
      refine ⟨_, _, _, by simpa using k1, by simpa [Nat.add_assoc] using k2, by simpa using k3⟩
    · obtain ⟨r, hr1, rfl⟩ := List.mem_map.1 hx
      exact (hy r (List.mem_range.1 hr1)).2.2.2.2
end
end Go.Proofs.Ythpfiieaanioeaa

namespace Go.Proofs.Ythpfiieaanioeaa
open Go.RowKit

/-- how much there is -/
def lonN (ts : List Tq) : Nat := (ts.map fun x => 1 + x.bs.length).sum
theorem lonN_next (ts : List Tq) (k : Nat) (h : k < ts.length) : lonN (ts.take (k + 1)) = lonN (ts.take k) + 1 + ts[k].bs.length := by
  unfold lonN
  rw [List.take_succ_eq_append_getElem h, List.map_append, List.sum_append]
  simp; omega
theorem lonN_le (ts : List Tq) (M : Nat) (h : ∀ x ∈ ts, x.bs.length ≤ M) (k : Nat) (hk : k ≤ ts.length) : lonN (ts.take k) ≤ k * (M + 1) := by
  induction k with
  | zero => simp [lonN]
  | succ k ih =>
    rw [lonN_next ts k (by omega)]
    have := h _ (List.getElem_mem (show k < ts.length by omega))
    have := ih (by omega)
    rw [Nat.succ_mul]; omega
set_option maxHeartbeats 1000000 in
theorem reflong10_any (A : Option Addr) (m c : Nat) (ts : List Tq) (w : World) (B : Nat) (hI : Trs w B A m c ts) (hm : m ≤ 64) (hb : ∀ x ∈ ts, x.bs.length ≤ 140737488351232) :
    Calls Try.prog 16 #[.slice A m c] w fun e w' => e = .returned (.int .i64 ((lonN ts : Nat) : Int)) ∧ w' = w := by
  have HL : Kp _ := ⟨hI.len⟩
  have HB : Kp _ := ⟨hb⟩
  have HI : Kp _ := ⟨hI⟩
  have hm63 := hI.le
  clear hI hb
  go_enter Try.func16, Try.ntmps16
  go_wp2
  go_loop [3, 4] (fun s i => ∃ k : Nat, k ≤ m ∧ i = .int .i64 k ∧ s = .int .i64 ((lonN (ts.take k) : Nat) : Int)) (fun _ i => m - (intOf i).toNat)
  case atStart => exact ⟨0, Nat.zero_le _, rfl, rfl⟩
  case round =>
    obtain ⟨k, hk, rfl, rfl⟩ := hrel
    by_cases hlt : k < m
    · obtain ⟨b, o, A', n', c', rfl, _, hat⟩ := HI.out.at hlt
      have hki : k < ts.length := by rw [HL.out]; exact hlt
      have HNx : Kp _ := ⟨lonN_next ts k hki⟩
      have h1 := lonN_le ts 140737488351232 HB.out k (by omega)
      have h2 := HB.out _ (List.getElem_mem hki)
      have hc2 := hat.sli
      have h3 : (ts[k]'hki).bs.length = n' := hat.bytes.len
      rw [h3] at h2 HNx
      have h4 : lonN (ts.take k) ≤ 9007199254740992 := Nat.le_trans h1 (by omega)
      have hn63 := hat.bytes.le
      generalize lonN (ts.take k) = s at *
      clear h1 h3 hat
      go_wp2
      go_round
      case rel => exact ⟨k + 1, by omega, by go_num, by rw [HNx.out]; go_num⟩
      case measure => simp [intOf]; omega
    · obtain rfl : k = m := by omega
      have HE : Kp (ts.take k = ts) := ⟨List.take_of_length_le (by rw [HL.out]; exact Nat.le_refl _)⟩
      rw [HE.out]
      go_wp2
      go_ret
      exact ⟨rfl, rfl⟩
/-- a row of what was traced, by its cells -/
abbrev Hq := Int × Int × Int × Option Addr × Nat × Nat
def hq4 (x : Hq) : List Value := [.int .i64 x.1, .int .i64 x.2.1, .int .i64 x.2.2.1, .slice x.2.2.2.1 x.2.2.2.2.1 x.2.2.2.2.2]
def hqCells : List Hq → List Value
  | [] => []
  | x :: l => hq4 x ++ hqCells l
theorem hqCells_length : ∀ L : List Hq, (hqCells L).length = L.length * 4
  | [] => rfl
  | x :: r => by simp [hqCells, hq4, hqCells_length r]; omega
theorem hqCells_append : ∀ L M : List Hq, hqCells (L ++ M) = hqCells L ++ hqCells M
  | [], _ => rfl
  | x :: r, M => by simp [hqCells, hqCells_append r M]
theorem hqCells_one : ∀ (L : List Hq), ∀ u ∈ hqCells L, u.oneCell' = true
  | [], u, hu => by cases hu
  | x :: r, u, hu => by
    rw [hqCells] at hu
    rcases List.mem_append.1 hu with h | h
    · simp only [hq4, List.mem_cons, List.not_mem_nil, or_false] at h
      rcases h with rfl | rfl | rfl | rfl <;> rfl
    · exact hqCells_one r u h
theorem hqCells_at : ∀ (L : List Hq) (j : Nat) (h : j < L.length) (i : Nat), i < 4 → (hqCells L)[j * 4 + i]? = (hq4 L[j])[i]?
  | x :: r, 0, h, i, hi => by
    have hl : (hq4 x).length = 4 := rfl
    rw [hqCells, Nat.zero_mul, Nat.zero_add, List.getElem?_append_left (by rw [hl]; exact hi)]
    rfl
  | x :: r, j + 1, h, i, hi => by
    have hl : (hq4 x).length = 4 := rfl
    rw [hqCells, List.getElem?_append_right (by rw [hl]; omega), hl, show (j + 1) * 4 + i - 4 = j * 4 + i by omega]
    exact hqCells_at r j (by simpa using h) i hi
/-- headers, and what they lead to -/
structure LdQ (w : World) (B : Nat) (L : List Hq) (ts : List Tq) : Prop where
  len : L.length = ts.length
  ok : ∀ x ∈ ts, TqOk x
  each : ∀ j (h : j < ts.length), (L[j]'(by omega)).1 = ts[j].kind ∧ (L[j]'(by omega)).2.1 = ts[j].pl ∧ (L[j]'(by omega)).2.2.1 = ts[j].sl ∧ Bs w B (L[j]'(by omega)).2.2.2.1 (L[j]'(by omega)).2.2.2.2.1 (L[j]'(by omega)).2.2.2.2.2 ts[j].bs
section
variable {w w' : World} {B B' : Nat} {A : Option Addr} {n c : Nat} {ts ts' : List Tq} {L M : List Hq}
theorem LdQ.nil (w : World) (B : Nat) : LdQ w B [] [] := ⟨rfl, (fun x h => by cases h), fun j h => absurd h (by simp)⟩
theorem LdQ.below (h : LdQ w B L ts) (hb : Below B w w') : LdQ w' B L ts := ⟨h.len, h.ok, fun j hj => ⟨(h.each j hj).1, (h.each j hj).2.1, (h.each j hj).2.2.1, (h.each j hj).2.2.2.below hb⟩⟩
theorem LdQ.more (h : LdQ w B L ts) (hB : B ≤ B') : LdQ w B' L ts := ⟨h.len, h.ok, fun j hj => ⟨(h.each j hj).1, (h.each j hj).2.1, (h.each j hj).2.2.1, (h.each j hj).2.2.2.more hB⟩⟩
theorem LdQ.append (h : LdQ w B L ts) (k : LdQ w B M ts') : LdQ w B (L ++ M) (ts ++ ts') := by
  have hl := h.len
  refine ⟨by simp [h.len, k.len], fun x hx => ?_, fun j hj => ?_⟩
  · rcases List.mem_append.1 hx with hx | hx
    · exact h.ok x hx
    · exact k.ok x hx
  · by_cases hlt : j < ts.length
    · simp only [List.getElem_append_left hlt, List.getElem_append_left (show j < L.length by omega)]
      exact h.each j hlt
    · have h3 := k.each (j - ts.length) (by simp at hj; omega)
      simp only [List.getElem_append_right (show ts.length ≤ j by omega), List.getElem_append_right (show L.length ≤ j by omega), hl]
      exact h3
theorem Trs.heads (h : Trs w B A n c ts) : ∃ L, LdQ w B L ts ∧ (∀ ad, A = some ad → ∀ j u, (hqCells L)[j]? = some u → w.cell? (ad.add j) = some u) := by
  have hlen := h.len
  rcases Nat.eq_zero_or_pos n with h0 | h0
  · obtain rfl : ts = [] := List.eq_nil_of_length_eq_zero (by omega)
    exact ⟨[], LdQ.nil _ _, fun ad _ j u hu => by simp [hqCells] at hu⟩
  · obtain ⟨b, o, rfl, hb, hc⟩ := h.cells h0
    have each : ∀ j, j < n → ∃ y : Option Addr × Nat × Nat, ∀ hj : j < ts.length, TqAt w B b (o + j * 4) ts[j] y.1 y.2.1 y.2.2 := by
      intro j hj
      obtain ⟨A', n', c', h1⟩ := hc j (by omega)
      exact ⟨(A', n', c'), fun _ => h1⟩
    obtain ⟨y, hy⟩ := Go.Deep.choose_lt each
    refine ⟨(List.range n).map fun j => ((ts.getD j default).kind, (ts.getD j default).pl, (ts.getD j default).sl, y j), ⟨by simp; omega, h.ok, fun j hj => ?_⟩, fun ad had j u hu => ?_⟩
    · simp only [List.getElem_map, List.getElem_range]
      have e : ts.getD j default = ts[j] := by simp [List.getD, List.getElem?_eq_getElem hj]
      rw [e]
      exact ⟨rfl, rfl, rfl, (hy j (by omega) hj).bytes⟩
    · obtain rfl := Option.some.inj had
      have hjl : j < n * 4 := by
        have := (List.getElem?_eq_some_iff.1 hu).1
        rw [hqCells_length] at this
        simpa using this
      have hq : j / 4 < n := by omega
      have e := hqCells_at ((List.range n).map fun j => ((ts.getD j default).kind, (ts.getD j default).pl, (ts.getD j default).sl, y j)) (j / 4) (by simpa using hq) (j % 4) (by omega)
      rw [show j / 4 * 4 + j % 4 = j by omega, hu] at e
      simp only [List.getElem_map, List.getElem_range] at e
      have e2 : ts.getD (j / 4) default = ts[j / 4]'(by omega) := by simp [List.getD, List.getElem?_eq_getElem (show j / 4 < ts.length by omega)]
      rw [e2] at e
      have hat := hy (j / 4) hq (by omega)
      rw [Addr.add_lit]
      have hm : j % 4 = 0 ∨ j % 4 = 1 ∨ j % 4 = 2 ∨ j % 4 = 3 := by omega
      rcases hm with h4 | h4 | h4 | h4
      · rw [h4] at e
        rw [show o + j = o + j / 4 * 4 by omega, hat.kind]; exact e.symm
      · rw [h4] at e
        rw [show o + j = o + j / 4 * 4 + 1 by omega, hat.pl]; exact e.symm
      · rw [h4] at e
        rw [show o + j = o + j / 4 * 4 + 2 by omega, hat.sl]; exact e.symm
      · rw [h4] at e
        rw [show o + j = o + j / 4 * 4 + 3 by omega, hat.sli]; exact e.symm
theorem Trs.of_own {base : Nat} {e : TypeId} {v : Value} (h : w.ownsRow base e 4 v n (hqCells L)) (hL : LdQ w B L ts) (hB : B ≤ w.heap.size) : ∃ A c, v = .slice A n c ∧ Trs w w.heap.size A n c ts := by
  have hl : L.length = n := by have := h.1; rw [hqCells_length] at this; omega
  have hli := hL.len
  rcases h.2 with ⟨rfl, rfl⟩ | ⟨g, cap, cur, rfl, hg, hh, hn, hm, hs, ht⟩
  · obtain rfl : ts = [] := List.eq_nil_of_length_eq_zero (by omega)
    exact ⟨none, 0, rfl, trs_nil _ _⟩
  · refine ⟨some ⟨g, 0, none⟩, cap, rfl, by omega, hn, hm, (fun h => by cases h), hL.ok, fun h0 => ⟨g, 0, rfl, (Array.getElem?_eq_some_iff.1 hh).1, fun j hj => ?_⟩⟩
    have hjL : j < L.length := by omega
    have k : ∀ i, i < 4 → w.cell? ⟨g, 0 + (j * 4 + i), none⟩ = (hq4 L[j])[i]? := fun i hi => by
      have h4 := hqCells_at L j hjL i hi
      have hi4 : i < (hq4 L[j]).length := hi
      rw [List.getElem?_eq_getElem hi4] at h4
      have k1 := h.cells (g := g) rfl _ _ h4
      rw [Addr.add_lit] at k1
      rw [k1, List.getElem?_eq_getElem hi4]
    obtain ⟨e1, e2, e3, e4⟩ := hL.each j hj
    have k0 := k 0 (by omega)
    have k1 := k 1 (by omega)
    have k2 := k 2 (by omega)
    have k3 := k 3 (by omega)
    simp only [Nat.zero_add, Nat.add_zero, hq4, List.getElem?_cons_zero, List.getElem?_cons_succ] at k0 k1 k2 k3
    exact ⟨_, _, _, ⟨by rw [Nat.zero_add, ← e1]; exact k0, by rw [Nat.zero_add, ← e2]; exact k1, by rw [Nat.zero_add, ← e3]; exact k2, by rw [Nat.zero_add]; exact k3, e4.more hB⟩⟩
end
section
variable {P : Program} {w : World} {ops : Array Oper} {rest : List Oper} {o : Oper} {a : Act} {Q : Exit → Act → World → Prop} {t e : TypeId} {z : Value} {bytes : Nat}
/-- append of what was traced -/
theorem wpList_appQ (ht : P.underlying t = some (.slice e)) (hinf : (P.info? e).map (fun i => (i.zero, i.size, i.bytes)) = some (some z, 4, bytes)) (hzs : z.cells.size = 4) (hgd : o.guard = none) (s x : Operand)
    (ho : o.op = .call { callee := .builtin .append, args := #[s, x], argTypes := #[t, t] })
    (base : Nat) (v : Value) (n : Nat) (L : List Hq) (hs : a.eval s = v) (hown : w.ownsRow base e 4 v n (hqCells L))
    (A : Option Addr) (m c : Nat) (M : List Hq) (hx : a.eval x = .slice A m c) (hl : M.length = m) (hnil : A = none → m = 0 ∧ c = 0)
    (hsrc : ∀ ad, A = some ad → ∀ j u, (hqCells M)[j]? = some u → w.cell? (ad.add j) = some u)
    (h63 : n + m ≤ maxLen) (hbytes : (n + m) * bytes ≤ 140737488355328) (hbase : base ≤ w.heap.size)
    (h : ∀ v' w', w'.ownsRow base e 4 v' (n + m) (hqCells (L ++ M)) → w.grownBy w' v.ownBlock → wpList P ops Q rest (a.put o.dst v') w') :
    wpList P ops Q (o :: rest) a w := by
  obtain ⟨i, hi, hz, hsize, hby⟩ := info_parts hinf
  cases A with
  | some ad =>
    exact wpList_append_own_at w hgd s x t ho base e i z 4 bytes ht hi hz hsize hby hzs (by decide) v n _ hs hown ad m c (hqCells M) hx (by rw [hqCells_length, hl]) (hsrc ad rfl) (hqCells_one M) h63 hbytes hbase
      (fun v' w' h2 h3 _ _ => h v' w' (by rw [hqCells_append]; exact h2) h3)
  | none =>
    obtain ⟨rfl, rfl⟩ := hnil rfl
    obtain rfl : M = [] := List.eq_nil_of_length_eq_zero hl
    refine wpList_plain hgd fun K hK => ?_
    have hrun := run_append_owned_none (P := P) w base t o.type e i 4 ht hi v n (hqCells L) hown
    unfold Oper.wp
    simp [execOp, ho, resolve, invoke, builtin, hs, hx, hrun, Result.andThen]
    exact hK _ _ (h v w (by simpa using hown) (World.grownBy.refl _ _))
end
theorem grown_belowQ {e : TypeId} {size base n : Nat} {v : Value} {xs : List Value} {w1 w2 : World} (hown : w1.ownsRow base e size v n xs) (hbase : base ≤ w1.heap.size) (hg : w1.grownBy w2 v.ownBlock) : Below base w1 w2 :=
  (Below.refl _ _).grown hg hbase (fun k hk => by
    rcases hown.2 with ⟨rfl, _⟩ | ⟨g, cap, cur, rfl, hb, _⟩
    · cases hk
    · have := Option.some.inj hk
      simp at this
      omega)
end Go.Proofs.Ythpfiieaanioeaa

namespace Go.Proofs.Ythpfiieaanioeaa
open Go.RowKit

def byN (n k : Nat) : Nat := n / 256 ^ k % 256
def carryB (m n k : Nat) : Nat := (m % 256 ^ k + n % 256 ^ k) / 256 ^ k
def borrowB (m n k : Nat) : Nat := if m % 256 ^ k < n % 256 ^ k then 1 else 0
theorem carryB_zero (m n : Nat) : carryB m n 0 = 0 := by unfold carryB; simp [Nat.mod_one]
theorem borrowB_zero (m n : Nat) : borrowB m n 0 = 0 := by unfold borrowB; simp [Nat.mod_one]
theorem carryB_le (m n k : Nat) : carryB m n k ≤ 1 := by
  unfold carryB
  have hp : 0 < 256 ^ k := Nat.pow_pos (by decide)
  have h1 := Nat.mod_lt m hp
  have h2 := Nat.mod_lt n hp
  generalize 256 ^ k = P at *
  have : (m % P + n % P) / P < 2 := Nat.div_lt_of_lt_mul (by omega)
  omega
theorem borrowB_le (m n k : Nat) : borrowB m n k ≤ 1 := by unfold borrowB; split <;> omega
theorem byN_lt (n k : Nat) : byN n k < 256 := Nat.mod_lt _ (by decide)
theorem pow_succ256 (k : Nat) : 256 ^ (k + 1) = 256 ^ k * 256 := Nat.pow_succ _ _
theorem add_byte (m n k : Nat) : byN (m + n) k = (carryB m n k + byN m k + byN n k) % 256 ∧ carryB m n (k + 1) = (carryB m n k + byN m k + byN n k) / 256 := by
  obtain ⟨h1, h2⟩ := add_parts m n (256 ^ k) 256 (Nat.pow_pos (by decide))
  unfold byN carryB
  rw [pow_succ256]
  exact ⟨by rw [h1]; congr 1; omega, by rw [h2]; congr 1; omega⟩
theorem sub_byte (m n k : Nat) (hk : k < 32) (hn : n < 256 ^ 32) :
    byN (subN m n) k = (if byN m k < byN n k + borrowB m n k then byN m k + 256 - byN n k - borrowB m n k else byN m k - byN n k - borrowB m n k) ∧
    borrowB m n (k + 1) = (if byN m k < byN n k + borrowB m n k then 1 else 0) := by
  have h := sub_parts m n (256 ^ k) 256 (Nat.pow_pos (by decide)) (by decide) (256 ^ (31 - k))
  have e : 256 ^ k * 256 * 256 ^ (31 - k) = 256 ^ 32 := by
    rw [← Nat.pow_succ, ← Nat.pow_add, show k + 1 + (31 - k) = 32 by omega]
  rw [e] at h
  obtain ⟨h1, h2⟩ := h (by omega)
  have hx := byN_lt m k
  have hy := byN_lt n k
  have hb := borrowB_le m n k
  refine ⟨?_, by unfold byN borrowB; rw [pow_succ256]; exact h2⟩
  have h3 : byN (subN m n) k = (byN m k + 256 - byN n k + 256 - borrowB m n k) % 256 := h1
  rw [h3]
  generalize byN m k = x at *
  generalize byN n k = y at *
  generalize borrowB m n k = b at *
  split <;> omega
theorem byte_at (l : List UInt8) (hl : l.length = 32) (k : Nat) (hk : k < 32) : (l[31 - k]'(by omega)).toNat = byN (getN l) k := by
  have e1 : l = l.take (31 - k) ++ [l[31 - k]'(by omega)] ++ l.drop (31 - k + 1) := by
    conv => lhs; rw [← List.take_append_drop (31 - k + 1) l]
    rw [List.take_succ_eq_append_getElem (by omega)]
  have hz : (l.drop (31 - k + 1)).length = k := by simp; omega
  have hz2 := getN_lt (l.drop (31 - k + 1))
  obtain ⟨x, hx⟩ : ∃ x, x = l[31 - k]'(by omega) := ⟨_, rfl⟩
  rw [← hx] at e1 ⊢
  clear hx
  generalize l.drop (31 - k + 1) = z at *
  generalize l.take (31 - k) = y at *
  rw [e1, getN_append, getN_append, hz]
  rw [hz] at hz2
  unfold byN
  have hs : getN [x] = x.toNat := by simp [getN]
  rw [hs]
  have hx := x.toNat_lt
  rw [show ([x] : List UInt8).length = 1 from rfl, Nat.pow_one]
  generalize getN y = gy at *
  generalize getN z = gz at *
  rw [show (gy * 256 + x.toNat) * 256 ^ k + gz = gz + 256 ^ k * (gy * 256 + x.toNat) by rw [Nat.mul_comm (256 ^ k)]; omega, Nat.add_mul_div_left _ _ (Nat.pow_pos (by decide)), Nat.div_eq_of_lt hz2]
  omega
/-- the bytes of a number: the last k are there -/
def tailB (n k : Nat) : List UInt8 := List.replicate (32 - k) 0 ++ putN n k
theorem tailB_spot (n k : Nat) (hk : k < 32) : (cells8 (tailB n k))[31 - k]? = some (.int .u8 0) := by
  have h := put_spot (n := n) (N := 32) hk
  rwa [show 32 - 1 - k = 31 - k by omega] at h
theorem tailB_set (n k : Nat) (hk : k < 32) : (cells8 (tailB n k)).set (31 - k) (.int .u8 ((byN n k : Nat) : Int)) = cells8 (tailB n (k + 1)) := by
  have h := put_row (n := n) (N := 32) hk
  rw [show 32 - 1 - k = 31 - k by omega] at h
  have e : ((byN n k : Nat) : Int) = (n : Int) / 2 ^ (8 * k) % 256 := by
    unfold byN
    rw [show (256 : Nat) ^ k = 2 ^ (8 * k) by rw [show (256 : Nat) = 2 ^ 8 from rfl, ← Nat.pow_mul]]
    simp
  rw [e]
  exact h
theorem tailB_none (n : Nat) : cells8 (tailB n 0) = cells8 z32 := by
  unfold tailB
  rw [show putN n 0 = [] from rfl, List.append_nil]; rfl
theorem tailB_all (n : Nat) : tailB n 32 = putN n 32 := by
  unfold tailB
  rw [Nat.sub_self, List.replicate_zero, List.nil_append]
theorem tailB_length (n k : Nat) (hk : k ≤ 32) : (tailB n k).length = 32 := by simp [tailB, putN_length]; omega
/-- the first byte that differs decides -/
theorem less_at {a b : List UInt8} (ha : a.length = 32) (hb : b.length = 32) (k : Nat) (hk : k < 32) (ht : a.take k = b.take k) (h : (a[k]'(by omega)).toNat < (b[k]'(by omega)).toNat) : getN a < getN b := by
  have split : ∀ l : List UInt8, ∀ hl : l.length = 32, getN l = (getN (l.take k) * 256 + (l[k]'(by omega)).toNat) * 256 ^ (31 - k) + getN (l.drop (k + 1)) := by
    intro l hl
    have e1 : l = l.take k ++ [l[k]'(by omega)] ++ l.drop (k + 1) := by
      conv => lhs; rw [← List.take_append_drop (k + 1) l]
      rw [List.take_succ_eq_append_getElem (by omega)]
    conv => lhs; rw [e1]
    rw [getN_append, getN_append, show ([l[k]'(by omega)] : List UInt8).length = 1 from rfl, Nat.pow_one, show (l.drop (k + 1)).length = 31 - k by simp; omega]
    congr 3
    simp [getN]
  rw [split a ha, split b hb, ht]
  have h1 := getN_lt (a.drop (k + 1))
  rw [show (a.drop (k + 1)).length = 31 - k by simp; omega] at h1
  generalize a[k]'_ = x at *
  generalize b[k]'_ = y at *
  generalize getN (b.take k) = t at *
  generalize getN (a.drop (k + 1)) = u at *
  generalize getN (b.drop (k + 1)) = v at *
  generalize 256 ^ (31 - k) = P at *
  have h2 : (t * 256 + x.toNat + 1) * P ≤ (t * 256 + y.toNat) * P := Nat.mul_le_mul_right _ (by omega)
  rw [Nat.add_mul, Nat.one_mul] at h2
  omega
end Go.Proofs.Ythpfiieaanioeaa

namespace Go.Proofs.Ythpfiieaanioeaa
open Go.RowKit

end Go.Proofs.Ythpfiieaanioeaa

namespace Go.Proofs.Ythpfiieaanioeaa
open Go.RowKit

end Go.Proofs.Ythpfiieaanioeaa

namespace Go.Proofs.Ythpfiieaanioeaa
open Go.RowKit

theorem dig_built0 : (Try.prog).built 43 [] = some (cells8 z32).toArray := by kernel_rfl
theorem hiD (l : List UInt8) (h : (cells8 l).length = 32) : ((Try.prog).info? 43).map (·.size) = some (cells8 l).length := by rw [h]; exact rwDig.size
section
variable {P : Program} {w : World} {ops : Array Oper} {rest : List Oper} {o : Oper} {a : Act} {Q : Exit → Act → World → Prop} {t : TypeId}
theorem wpList_build0 (hg : o.guard = none) (hop : o.op = .build t #[]) {cs : List Value} (hb : P.built t [] = some cs.toArray)
    (h : wpList P ops Q rest (a.put o.dst (.agg cs.toArray)) w) : wpList P ops Q (o :: rest) a w := by
  refine wpList_plain hg fun K hK => ?_
  unfold Oper.wp execOp
  have hr := run_build (P := P) w t #[] cs.toArray (by simpa using hb)
  simp only [hop, Sem.run_bind, List.map_toArray, List.map_nil, hr, Result.andThen_ok]
  exact hK _ _ h
theorem yieldsIf_build0 {S : World → Prop} (hw : Region.wanted o (yielded ops a.tmps) = true) (hop : o.op = .build t #[]) {cs : List Value} (hb : P.built t [] = some cs.toArray) : YieldsIf P ops S o (.agg cs.toArray) a :=
  .inl ⟨hw, fun w _ => by
    have hr := run_build (P := P) w t #[] cs.toArray (by simpa using hb)
    unfold execOp
    simp only [hop, Sem.run_bind, List.map_toArray, List.map_nil, hr, Result.andThen_ok, Sem.run_pure]⟩
end
def ffL (k : Nat) : List UInt8 := List.replicate k 255 ++ List.replicate (32 - k) 0
def oneL : List UInt8 := z32.set 31 1
theorem ff_set : ∀ k < 32, (ffL k).set k 255 = ffL (k + 1) := by decide
theorem ff_length : ∀ k < 33, (ffL k).length = 32 := by decide
theorem ff_none : ffL 0 = z32 := by decide
theorem known_add : addL (ffL 32) oneL = z32 := by decide +kernel
theorem known_sub : subL z32 oneL = ffL 32 := by decide +kernel
theorem known_less : lessL oneL (ffL 32) = true := by decide +kernel
theorem cells8_set' (l : List UInt8) (k : Nat) (b : UInt8) : (cells8 l).set k (.int .u8 (b.toNat : Int)) = cells8 (l.set k b) := by unfold cells8; rw [List.map_set]
theorem huD : (Try.prog).underlying 43 = some (.array 32 5) := rwDig.ty
end Go.Proofs.Ythpfiieaanioeaa

namespace Go.Proofs.Ythpfiieaanioeaa
open Go.RowKit

theorem add_parts_at (m n k : Nat) : ∃ c x y s d : Nat, c ≤ 1 ∧ x < 256 ∧ y < 256 ∧ s < 256 ∧ ((c : Int) + (x : Int) + (y : Int)) % 256 = (s : Int) ∧ ((c : Int) + (x : Int) + (y : Int)) / 256 = (d : Int) ∧ Kp (carryB m n k = c) ∧ Kp (byN m k = x) ∧ Kp (byN n k = y) ∧ Kp (byN (m + n) k = s) ∧ Kp (carryB m n (k + 1) = d) := by
  refine ⟨_, _, _, _, _, carryB_le m n k, byN_lt m k, byN_lt n k, byN_lt (m + n) k, ?_, ?_, ⟨rfl⟩, ⟨rfl⟩, ⟨rfl⟩, ⟨rfl⟩, ⟨rfl⟩⟩
  · rw [(add_byte m n k).1]; omega
  · rw [(add_byte m n k).2]; omega
set_option maxRecDepth 100000 in
set_option maxHeartbeats 4000000 in
theorem refadd_any (a b : List UInt8) (w : World) (ha : a.length = 32) (hb : b.length = 32) : Calls Try.prog 48 #[.agg (cells8 a).toArray, .agg (cells8 b).toArray] w fun e w' => e = .returned (.agg (cells8 (addL a b)).toArray) ∧ Below w.heap.size w w' := by
  have Hal : Kp _ := ⟨ha⟩
  have Hbl : Kp _ := ⟨hb⟩
  have HLa : Kp ((cells8 a).length = 32) := ⟨by rw [cells8_length]; exact ha⟩
  have HLb : Kp ((cells8 b).length = 32) := ⟨by rw [cells8_length]; exact hb⟩
  obtain ⟨L, hL⟩ : ∃ L, L = addL a b := ⟨_, rfl⟩
  have HTa : Kp (cells8 (tailB (getN a + getN b) 32) = cells8 L) := ⟨by rw [hL, tailB_all]; rfl⟩
  have HLL : Kp ((cells8 L).length = 32) := ⟨by rw [hL, cells8_length, addL_length]⟩
  rw [← hL]
  have HB0 : Kp ((Try.prog).built 43 [] = some (cells8 (tailB (getN a + getN b) 0)).toArray) := ⟨by rw [tailB_none]; exact dig_built0⟩
  have HLZ : Kp ((cells8 (tailB (getN a + getN b) 0)).length = 32) := ⟨by rw [cells8_length, tailB_length _ _ (by decide)]⟩
  have HZz : Kp (zero32.length = 32) := ⟨rfl⟩
  have HC0 : Kp _ := ⟨carryB_zero (getN a) (getN b)⟩
  clear hL ha hb
  go_enter Try.func48, Try.ntmps48
  go_wp2_with (with_reducible refine wpList_box (o := ⟨some 2, _, _, _, _, _⟩) rfl (.tmp 0) rfl rfl ?_)
  intro w1 hk1 hb1 hs1
  have HK1 : Kp _ := ⟨hk1⟩
  clear hk1 hs1
  go_wp2_with (with_reducible refine wpList_box (o := ⟨some 3, _, _, _, _, _⟩) rfl (.tmp 1) rfl rfl ?_)
  intro w2 hk2 hb2 hs2
  have hT2 : Two w w.heap.size w1.heap.size 43 (cells8 a) (cells8 b) w2 := ⟨HK1.out.below hb2 HK1.out.lt, hk2, hb1.trans (hb2.mono hb1.size)⟩
  have n1 : w.heap.size < w1.heap.size := HK1.out.lt
  have n2 : w1.heap.size < w2.heap.size := hk2.lt
  obtain ⟨gb, hgb⟩ : ∃ g, g = w1.heap.size := ⟨_, rfl⟩
  rw [← hgb] at hT2 n1 n2 ⊢
  clear hk2 hb1 hb2 hs2 HK1 hgb
  go_wp2_with (with_reducible refine wpList_alloc (o := ⟨some 4, _, _, _, _, _⟩) tyDig rfl rfl ?_)
  intro w3 hk3 hb3 hs3
  have HR3 : Kp _ := ⟨hk3⟩
  have hT3 := hT2.next hb3
  obtain ⟨gr, hgr⟩ : ∃ g, g = w2.heap.size := ⟨_, rfl⟩
  have n3 : gr < w3.heap.size := by rw [hgr]; exact HR3.out.lt
  rw [← hgr] at HR3 n2 ⊢
  clear hk3 hb3 hs3 hT2 hgr
  go_wp2_with (first
    | (refine wpList_build0 (o := ⟨some 8, _, _, _, _, _⟩) rfl rfl HB0.out ?_)
    | (with_reducible refine wpList_alloc (o := ⟨some 5, _, _, _, _, _⟩) tyDig rfl rfl ?_))
  intro w4 hk4 hb4 hs4
  have HO4 : Kp _ := ⟨hk4⟩
  have HR4 : Kp _ := ⟨HR3.out.below hb4 HR3.out.lt⟩
  have hT4 := hT3.next hb4
  obtain ⟨go, hgo⟩ : ∃ g, g = w3.heap.size := ⟨_, rfl⟩
  rw [← hgo] at HO4 n3 ⊢
  clear hk4 hb4 hs4 hT3 HR3 hgo
  go_wp2_with (refine wpList_storeAll (o := ⟨none, _, _, _, _, _⟩) (vs := cells8 (tailB (getN a + getN b) 0)) rwDig rfl (.tmp 5) (.tmp 8) rfl rfl HO4.out HZz.out HLZ.out (cells8_one _) rfl ?_)
  intro w5 hk5 ho5
  have HO5 : Kp _ := ⟨hk5⟩
  have HR5 : Kp _ := ⟨HR4.out.only ho5 (by omega)⟩
  have HA5 : Kp (Blk w5 w.heap.size 43 (cells8 a)) := ⟨hT4.a.only ho5 (by omega)⟩
  have HB5 : Kp (Blk w5 gb 43 (cells8 b)) := ⟨hT4.b.only ho5 (by omega)⟩
  have hB5 := hT4.below.trans (ho5.below (by omega))
  clear hk5 ho5 HO4 HR4 hT4
  go_wp2
  go_loopg [6, 7] 32 (fun gk vc vi wr => ∃ k : Nat, k + gk = 32 ∧ vi = .int .i64 (31 - (k : Int)) ∧ vc = .int .i64 ((carryB (getN a) (getN b) k : Nat) : Int) ∧ Kp (Blk wr go 43 (cells8 (tailB (getN a + getN b) k))) ∧ Kp (Blk wr gr 43 zero32) ∧ Kp (Blk wr w.heap.size 43 (cells8 a)) ∧ Kp (Blk wr gb 43 (cells8 b)) ∧ Below w.heap.size w wr)
  case atStart => exact ⟨0, by omega, by go_num, by rw [HC0.out]; rfl, HO5, HR5, HA5, HB5, hB5⟩
  case round =>
    clear HO5 HR5 HA5 HB5 hB5 HC0
    obtain ⟨k, hk, rfl, rfl, HO, HR, HA, HB, hB⟩ := hrel
    cases gk with
    | zero =>
      obtain rfl : k = 32 := by omega
      have HD : Kp (Blk wr go 43 (cells8 L)) := ⟨by rw [← HTa.out]; exact HO.out⟩
      generalize carryB (getN a) (getN b) 32 = c9 at *
      clear HO HA HB
      go_wp2_with (first
        | (with_reducible refine wpList_loadAll (o := ⟨some 31, _, _, _, _, _⟩) rwDig rfl (.tmp 5) rfl rfl HD.out HLL.out ?_)
        | (with_reducible refine wpList_storeAll (o := ⟨none, _, _, _, _, _⟩) (vs := cells8 L) rwDig rfl (.tmp 4) (.tmp 31) rfl rfl HR.out HZz.out HLL.out (cells8_one _) rfl ?_))
      intro w7 hk7 ho7
      have HK7 : Kp _ := ⟨hk7⟩
      clear hk7
      go_wp2
      exact ret_arr rfl rwDig rfl HK7.out HLL.out rfl ⟨rfl, hB.trans (ho7.below (by omega))⟩
    | succ g2 =>
      have hk32 : k < 32 := by omega
      obtain ⟨j, hj⟩ : ∃ j : Nat, (31 : Int) - (k : Int) = (j : Int) := ⟨31 - k, by omega⟩
      have hjk : j = 31 - k := by omega
      have hj32 : (j : Int) < 32 := by omega
      obtain ⟨c, x, y, s, d, hc1, hx, hy, hs, hm, hd, HC, HX, HY, HS, HD⟩ := add_parts_at (getN a) (getN b) k
      have hca : wr.cell? ⟨w.heap.size, j, none⟩ = some (.int .u8 (x : Int)) := by rw [HA.out.cell?, hjk, cells8_at a _ (by rw [Hal.out]; omega), byte_at a Hal.out k hk32, HX.out]
      have hcb : wr.cell? ⟨gb, j, none⟩ = some (.int .u8 (y : Int)) := by rw [HB.out.cell?, hjk, cells8_at b _ (by rw [Hbl.out]; omega), byte_at b Hbl.out k hk32, HY.out]
      have hco : wr.cell? ⟨go, j, none⟩ = some (.int .u8 0) := by rw [HO.out.cell?, hjk]; exact tailB_spot _ k hk32
      have hfo := HO.out.frozen j
      have HSet : Kp _ := ⟨tailB_set (getN a + getN b) k hk32⟩
      rw [HS.out, ← hjk] at HSet
      have HJ : Kp _ := ⟨hj⟩
      rw [hj, HC.out]
      have hj31 : j = 31 - k := hjk
      have HJN : Kp _ := ⟨hj31⟩
      clear hj hjk hj31
      obtain ⟨wa, rfl⟩ : ∃ x, x = wr := ⟨wr, rfl⟩
      go_wp2_with fail
      go_still (by kernel_rfl)
      go_wp2
      go_roundg g2
      case rel => exact ⟨k + 1, by omega, by have h := HJN.out; go_num, by rw [HD.out, hd], ⟨by have h3 := HO.out.set j (.int .u8 (s : Int)); rw [HSet.out] at h3; exact h3.drew⟩, ⟨(HR.out.other (by show gr ≠ go; omega) _).drew⟩, ⟨(HA.out.other (by show w.heap.size ≠ go; omega) _).drew⟩, ⟨(HB.out.other (by show gb ≠ go; omega) _).drew⟩, (hB.setCell (by show w.heap.size ≤ go; omega) _).drew⟩
      case measure => omega
end Go.Proofs.Ythpfiieaanioeaa
