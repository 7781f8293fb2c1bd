/- 
   
   
   
   
   
   
    -/
import Derived.WalkKit
import Derived.WalkSpells
import Derived.WalkLawsBesides
import Derived.Lib.Hide
import Derived.Laws.BytesArg
import Derived.Laws.IdiomStrings
import Derived.Laws.CopyOwn
import Derived.Deep.Draws
import Derived.Deep.OwnRows
import Derived.Maps.AppendAt
import Derived.Deep.AppendLies
import Derived.Test.YtcehkafddlfleaaGreatDoorRows
namespace Go.Proofs.YtcehkafddlfleaaGreatDoor
open Go.RowKit
def cells8 (l : List UInt8) : List Value := l.map fun b => Value.int .u8 (b.toNat : Int)
theorem cells8_length (l : List UInt8) : (cells8 l).length = l.length := by simp [cells8]
theorem cells8_append (l m : List UInt8) : cells8 (l ++ m) = cells8 l ++ cells8 m := by simp [cells8]
theorem cells8_one (l : List UInt8) : ∀ u ∈ cells8 l, u.oneCell' = true := by
 intro u hu
 obtain ⟨_, _, rfl⟩ := List.mem_map.1 hu
 rfl
theorem cells8_at (l : List UInt8) (j : Nat) (h : j < l.length) : (cells8 l)[j]? = some (.int .u8 (l[j].toNat : Int)) := by
 simp [cells8, List.getElem?_eq_getElem h]
theorem cells8_some {l : List UInt8} {j : Nat} {u : Value} (h : (cells8 l)[j]? = some u) : ∃ hj : j < l.length, u = .int .u8 (l[j].toNat : Int) := by
 have hj : j < l.length := by
  have := (List.getElem?_eq_some_iff.1 h).1
  simpa [cells8] using this
 refine ⟨hj, ?_⟩
 rw [cells8_at l j hj] at h
 exact (Option.some.inj h).symm
structure Bs (w : World) (B : Nat) (A : Option Addr) (n c : Nat) (l : List UInt8) : Prop where
 len : l.length = n
 cap : n ≤ c
 max : c ≤ maxLen
 nil : A = none → c = 0
 cells : 0 < n → ∃ b o, A = some ⟨b, o, none⟩ ∧ b < B ∧ ∀ j (h : j < l.length), w.cell? ⟨b, o + j, none⟩ = some (.int .u8 (l[j].toNat : Int))
section
variable {w w' : World} {B B' : Nat} {A : Option Addr} {n c : Nat} {l : List UInt8}
theorem Bs.zero (w : World) (B : Nat) : Bs w B none 0 0 [] := ⟨rfl, Nat.le_refl _, Nat.zero_le _, fun _ => rfl, fun h => absurd h (by omega)⟩
theorem Bs.le (h : Bs w B A n c l) : n ≤ 9223372036854775807 := by have := h.cap; have := h.max; simp only [maxLen] at this; omega
theorem Bs.keep (h : Bs w B A n c l) (hk : ∀ p : Addr, p.block < B → w'.cell? p = w.cell? p) : Bs w' B A n c l :=
 ⟨h.len, h.cap, h.max, h.nil, fun h0 => by
  obtain ⟨b, o, hA, hb, hc⟩ := h.cells h0
  exact ⟨b, o, hA, hb, fun j hj => (hk _ hb).trans (hc j hj)⟩⟩
theorem Bs.more (h : Bs w B A n c l) (hB : B ≤ B') : Bs w B' A n c l :=
 ⟨h.len, h.cap, h.max, h.nil, fun h0 => by
  obtain ⟨b, o, hA, hb, hc⟩ := h.cells h0
  exact ⟨b, o, hA, by omega, hc⟩⟩
theorem Bs.below (h : Bs w B A n c l) (hb : Below B w w') : Bs w' B A n c l := h.keep fun _ hp => hb.cell hp
theorem Bs.below' (h : Bs w B A n c l) (hb : Below B' w w') (hB : B ≤ B') : Bs w' B A n c l := h.below (hb.mono hB)
theorem Bs.drew (h : Bs w B A n c l) : Bs w.drew B A n c l := h.keep fun _ _ => rfl
theorem Bs.alloc (h : Bs w B A n c l) (hB : B ≤ w.heap.size) (o : Obj) : Bs (w.alloc o) B A n c l := h.below ((Below.refl _ _).alloc hB o)
theorem Bs.setCell (h : Bs w B A n c l) {p : Addr} (hB : B ≤ p.block) (u : Value) : Bs (w.setCell p u) B A n c l := h.below ((Below.refl _ _).setCell hB u)
theorem Bs.cell (h : Bs w B A n c l) {i : Nat} (hi : i < n) : ∃ b o, A = some ⟨b, o, none⟩ ∧ b < B ∧ w.cell? ⟨b, o + i, none⟩ = some (.int .u8 ((l[i]'(by have := h.len; omega)).toNat : Int)) := by
 obtain ⟨b, o, hA, hb, hc⟩ := h.cells (by omega)
 exact ⟨b, o, hA, hb, hc i (by have := h.len; omega)⟩
theorem Bs.news (h : Bs w B A n c l) : ∀ ad, A = some ad → ∀ j u, (cells8 l)[j]? = some u → w.cell? (ad.add j) = some u := by
 intro ad hA j u hu
 obtain ⟨hj, rfl⟩ := cells8_some hu
 obtain ⟨b, o, hA', _, hc⟩ := h.cells (by have := h.len; omega)
 rw [hA] at hA'
 obtain rfl := Option.some.inj hA'
 rw [Addr.add_lit]
 exact hc j hj
theorem Bs.of_own {base : Nat} {e : TypeId} {v : Value} (h : w.ownsRow base e 1 v n (cells8 l)) : ∃ A c, v = .slice A n c ∧ Bs w w.heap.size A n c l := by
 have hl : l.length = n := by have := h.1; rw [cells8_length] at this; omega
 rcases h.2 with ⟨rfl, rfl⟩ | ⟨g, cap, cur, rfl, hg, hh, hn, hm, hs, ht⟩
 ·obtain rfl : l = [] := List.eq_nil_of_length_eq_zero hl
  exact ⟨none, 0, rfl, Bs.zero w _⟩
 ·refine ⟨some ⟨g, 0, none⟩, cap, rfl, hl, hn, hm, (fun h => by cases h), fun h0 => ⟨g, 0, rfl, (Array.getElem?_eq_some_iff.1 hh).1, fun j hj => ?_⟩⟩
  have := h.cells (g := g) rfl j _ (cells8_at l j hj)
  rwa [Addr.add_lit] at this
theorem Bs.cut (h : Bs w B A n c l) {i k : Nat} (hik : i ≤ k) (hk : k ≤ n) :
  Bs w B (if c = i then A else A.map (·.add i)) (k - i) (c - i) ((l.take k).drop i) := by
 have hl := h.len
 have hc := h.cap
 refine ⟨by simp; omega, by omega, by have := h.max; omega, fun hn => ?_, fun h0 => ?_⟩
 ·by_cases e : c = i
  ·omega
  ·rw [if_neg e] at hn
   have : A = none := by simpa using hn
   have := h.nil this
   omega
 ·obtain ⟨b, o, hA, hb, hcell⟩ := h.cells (by omega)
  refine ⟨b, o + i, ?_, hb, fun j hj => ?_⟩
  ·rw [if_neg (by omega), hA]
   simp [Addr.add]
  ·have hj' : i + j < l.length := by simp at hj; omega
   rw [Nat.add_assoc, hcell (i + j) hj']
   simp
theorem Bs.text {P : Program} (h : Bs w B A n c l) {src dst e : TypeId} (hs : P.underlying src = some (.slice e)) (he : P.underlying e = some (.int .u8)) (hd : P.underlying dst = some .string) :
  (convert src dst (.slice A n c)).run P w = .ok (.string ⟨l.toArray⟩) w := by
 have hl := h.len
 rcases Nat.eq_zero_or_pos n with h0 | h0
 ·subst h0
  obtain rfl : l = [] := List.eq_nil_of_length_eq_zero hl
  cases A with
  | none => exact run_convert_bytes_nil w src e hs he _ _ _ hd
  | some a => exact run_convert_bytes_back w src dst e a c [] hs he hd (fun j hj => absurd hj (by simp))
 ·obtain ⟨b, o, rfl, hb, hcell⟩ := h.cells h0
  rw [← hl]
  exact run_convert_bytes_back w src dst e ⟨b, o, none⟩ c l hs he hd (fun j hj => by rw [Addr.add_lit]; exact hcell j hj)
end
structure Ls (w : World) (B : Nat) (A : Option Addr) (n c : Nat) (ls : List (List UInt8)) : Prop where
 len : ls.length = n
 cap : n ≤ c
 max : c ≤ maxLen
 nil : A = none → c = 0
 cells : 0 < n → ∃ b o, A = some ⟨b, o, none⟩ ∧ b < B ∧ ∀ j (h : j < ls.length), ∃ A' n' c', w.cell? ⟨b, o + j, none⟩ = some (.slice A' n' c') ∧ Bs w B A' n' c' ls[j]
section
variable {w w' : World} {B B' : Nat} {A : Option Addr} {n c : Nat} {ls : List (List UInt8)}
theorem Ls.zero (w : World) (B : Nat) : Ls w B none 0 0 [] := ⟨rfl, Nat.le_refl _, Nat.zero_le _, fun _ => rfl, fun h => absurd h (by omega)⟩
theorem Ls.le (h : Ls w B A n c ls) : n ≤ 9223372036854775807 := by have := h.cap; have := h.max; simp only [maxLen] at this; omega
theorem Ls.keep (h : Ls w B A n c ls) (hk : ∀ p : Addr, p.block < B → w'.cell? p = w.cell? p) : Ls w' B A n c ls :=
 ⟨h.len, h.cap, h.max, h.nil, fun h0 => by
  obtain ⟨b, o, hA, hb, hc⟩ := h.cells h0
  refine ⟨b, o, hA, hb, fun j hj => ?_⟩
  obtain ⟨A', n', c', h1, h2⟩ := hc j hj
  exact ⟨A', n', c', (hk _ hb).trans h1, h2.keep hk⟩⟩
theorem Ls.more (h : Ls w B A n c ls) (hB : B ≤ B') : Ls w B' A n c ls :=
 ⟨h.len, h.cap, h.max, h.nil, fun h0 => by
  obtain ⟨b, o, hA, hb, hc⟩ := h.cells h0
  refine ⟨b, o, hA, by omega, fun j hj => ?_⟩
  obtain ⟨A', n', c', h1, h2⟩ := hc j hj
  exact ⟨A', n', c', h1, h2.more hB⟩⟩
theorem Ls.below (h : Ls w B A n c ls) (hb : Below B w w') : Ls w' B A n c ls := h.keep fun _ hp => hb.cell hp
theorem Ls.drew (h : Ls w B A n c ls) : Ls w.drew B A n c ls := h.keep fun _ _ => rfl
theorem Ls.alloc (h : Ls w B A n c ls) (hB : B ≤ w.heap.size) (o : Obj) : Ls (w.alloc o) B A n c ls := h.below ((Below.refl _ _).alloc hB o)
theorem Ls.at (h : Ls w B A n c ls) {i : Nat} (hi : i < n) : ∃ b o A' n' c', A = some ⟨b, o, none⟩ ∧ b < B ∧ w.cell? ⟨b, o + i, none⟩ = some (.slice A' n' c') ∧ Bs w B A' n' c' (ls[i]'(by have := h.len; omega)) := by
 obtain ⟨b, o, hA, hb, hc⟩ := h.cells (by omega)
 obtain ⟨A', n', c', h1, h2⟩ := hc i (by have := h.len; omega)
 exact ⟨b, o, A', n', c', hA, hb, h1, h2⟩
end
structure Zs (w : World) (B : Nat) (k : IntKind) (A : Option Addr) (n c : Nat) (zs : List Int) : Prop where
 len : zs.length = n
 cap : n ≤ c
 max : c ≤ maxLen
 nil : A = none → c = 0
 wf : ∀ z ∈ zs, (Lit.int k z).wf = true
 cells : 0 < n → ∃ b o, A = some ⟨b, o, none⟩ ∧ b < B ∧ ∀ j (h : j < zs.length), w.cell? ⟨b, o + j, none⟩ = some (.int k zs[j])
section
variable {w w' : World} {B B' : Nat} {k : IntKind} {A : Option Addr} {n c : Nat} {zs : List Int}
theorem Zs.le (h : Zs w B k A n c zs) : n ≤ 9223372036854775807 := by have := h.cap; have := h.max; simp only [maxLen] at this; omega
theorem Zs.keep (h : Zs w B k A n c zs) (hk : ∀ p : Addr, p.block < B → w'.cell? p = w.cell? p) : Zs w' B k A n c zs :=
 ⟨h.len, h.cap, h.max, h.nil, h.wf, fun h0 => by
  obtain ⟨b, o, hA, hb, hc⟩ := h.cells h0
  exact ⟨b, o, hA, hb, fun j hj => (hk _ hb).trans (hc j hj)⟩⟩
theorem Zs.more (h : Zs w B k A n c zs) (hB : B ≤ B') : Zs w B' k A n c zs :=
 ⟨h.len, h.cap, h.max, h.nil, h.wf, fun h0 => by
  obtain ⟨b, o, hA, hb, hc⟩ := h.cells h0
  exact ⟨b, o, hA, by omega, hc⟩⟩
theorem Zs.below (h : Zs w B k A n c zs) (hb : Below B w w') : Zs w' B k A n c zs := h.keep fun _ hp => hb.cell hp
theorem Zs.drew (h : Zs w B k A n c zs) : Zs w.drew B k A n c zs := h.keep fun _ _ => rfl
theorem Zs.alloc (h : Zs w B k A n c zs) (hB : B ≤ w.heap.size) (o : Obj) : Zs (w.alloc o) B k A n c zs := h.below ((Below.refl _ _).alloc hB o)
theorem Zs.at (h : Zs w B k A n c zs) {i : Nat} (hi : i < n) : ∃ b o, A = some ⟨b, o, none⟩ ∧ b < B ∧ w.cell? ⟨b, o + i, none⟩ = some (.int k (zs[i]'(by have := h.len; omega))) := by
 obtain ⟨b, o, hA, hb, hc⟩ := h.cells (by omega)
 exact ⟨b, o, hA, hb, hc i (by have := h.len; omega)⟩
end
structure Kp (p : Prop) : Prop where
 out : p
theorem below_next {w0 w1 w2 : World} (h1 : Below w0.heap.size w0 w1) (h2 : Below w1.heap.size w1 w2) : Below w0.heap.size w0 w2 := h1.trans (h2.mono h1.size)
theorem Bs.next {w0 w1 : World} {B : Nat} {A : Option Addr} {n c : Nat} {l : List UInt8} (h : Bs w0 B A n c l) (hb : Below w0.heap.size w0 w1) (hB : B ≤ w0.heap.size) : Bs w1 w1.heap.size A n c l :=
 (h.below (hb.mono hB)).more (Nat.le_trans hB hb.size)
theorem ret_eq {a b : Value} (h : a = b) : Ending.returned a = .returned b := by rw [h]
end Go.Proofs.YtcehkafddlfleaaGreatDoor

namespace Go.Proofs.YtcehkafddlfleaaGreatDoor
open Go.RowKit
structure El (P : Program) (t e : TypeId) (z : Value) (bytes : Nat) : Prop where
 ty : P.underlying t = some (.slice e)
 info : (P.info? e).map (fun i => (i.zero, i.size, i.bytes)) = some (some z, 1, bytes)
 one : z.cells = #[z]
theorem own_nil (w : World) (base : Nat) (e : TypeId) : w.ownsRow base e 1 (.slice none 0 0) 0 [] := World.ownsRow_nil _ _ _ _
theorem own_below {w w' : World} {base : Nat} {e : TypeId} {v : Value} {n : Nat} {xs : List Value} (h : w.ownsRow base e 1 v n xs) (hb : Below w.heap.size w w') : w'.ownsRow base e 1 v n xs :=
 h.kept (row := none) ⟨hb.os, hb.tape, hb.output, hb.size, fun j hj _ => hb.block j hj⟩ (by cases v.ownBlock <;> simp)
theorem own_form {w : World} {base : Nat} {e : TypeId} {v : Value} {n : Nat} {xs : List Value} (h : w.ownsRow base e 1 v n xs) :
  ∃ A c, v = .slice A n c ∧ n ≤ c ∧ c ≤ maxLen ∧ (A = none → c = 0 ∧ n = 0) ∧ (∀ ad, A = some ad → ∃ g, ad = ⟨g, 0, none⟩ ∧ base ≤ g ∧ g < w.heap.size) := by
 rcases h.2 with ⟨rfl, rfl⟩ | ⟨g, cap, cur, rfl, hg, hh, hn, hm, hs, ht⟩
 ·exact ⟨none, 0, rfl, Nat.le_refl _, Nat.zero_le _, fun _ => ⟨rfl, rfl⟩, fun ad h => by cases h⟩
 ·exact ⟨_, cap, rfl, hn, hm, fun h => (by cases h), fun ad h => ⟨g, (Option.some.inj h).symm, hg, (Array.getElem?_eq_some_iff.1 hh).1⟩⟩
section
variable {P : Program} {w : World} {ops : Array Oper} {rest : List Oper} {o : Oper} {a : Act} {Q : Exit → Act → World → Prop} {t e : TypeId} {z : Value} {bytes : Nat}
theorem own_some {w : World} {base : Nat} {e : TypeId} {v : Value} {n : Nat} {xs : List Value} (h : w.ownsRow base e 1 v n xs) (h0 : 0 < n) :
  ∃ g c, v = .slice (some ⟨g, 0, none⟩) n c ∧ n ≤ c ∧ base ≤ g ∧ g < w.heap.size := by
 obtain ⟨A, c, rfl, hc, _, hn, hs⟩ := own_form h
 cases A with
 | none => have := (hn rfl).2; omega
 | some ad =>
  obtain ⟨g, rfl, hg, hl⟩ := hs ad rfl
  exact ⟨g, c, rfl, hc, hg, hl⟩
theorem wpList_app (E : El P t e z bytes) (hgd : o.guard = none) (s x : Operand)
  (ho : o.op = .call { callee := .builtin .append, args := #[s, x], argTypes := #[t, t] })
  (base : Nat) (v : Value) (n : Nat) (xs : List Value) (hs : a.eval s = v) (hown : w.ownsRow base e 1 v n xs)
  (A : Option Addr) (m c : Nat) (news : List Value) (hx : a.eval x = .slice A m c) (hl : news.length = m) (hnil : A = none → m = 0 ∧ c = 0)
  (hsrc : ∀ ad, A = some ad → ∀ j u, news[j]? = some u → w.cell? (ad.add j) = some u) (h1 : ∀ u ∈ news, u.oneCell' = true)
  (h63 : n + m ≤ maxLen) (hbytes : (n + m) * bytes ≤ 140737488355328) (hbase : base ≤ w.heap.size)
  (h : ∀ v' w', w'.ownsRow base e 1 v' (n + m) (xs ++ news) → w.grownBy w' v.ownBlock → (v'.ownBlock = v.ownBlock ∨ v'.ownBlock = some w.heap.size) → wpList P ops Q rest (a.put o.dst v') w') :
  wpList P ops Q (o :: rest) a w := by
 obtain ⟨i, hi, hz0, hz1, hz2⟩ := info_parts E.info
 cases A with
 | some ad =>
  exact wpList_append_own_at w hgd s x t ho base e i z 1 bytes E.ty hi hz0 hz1 hz2 (by rw [E.one]; rfl) (by decide) v n xs hs hown ad m c news hx (by omega) (hsrc ad rfl) h1 h63 hbytes hbase
   (fun v' w' h2 h3 _ h5 => h v' w' h2 h3 h5)
 | none =>
  obtain ⟨rfl, rfl⟩ := hnil rfl
  obtain rfl : news = [] := List.eq_nil_of_length_eq_zero hl
  refine wpList_plain hgd fun K hK => ?_
  have hrun := run_append_owned_none (P := P) w base t o.type e i 1 E.ty hi v n xs hown
  unfold Oper.wp
  simp [execOp, ho, resolve, invoke, builtin, hs, hx, hrun, Result.andThen]
  exact hK _ _ (h v w (by simpa using hown) (World.grownBy.refl _ _) (.inl rfl))
theorem below_of_grown {base : Nat} {v : Value} {n : Nat} {xs : List Value} {w1 w2 : World} (hown : w1.ownsRow base e 1 v n xs) (hbase : base ≤ w1.heap.size) (hg : w1.grownBy w2 v.ownBlock) : Below base w1 w2 :=
 (Below.refl _ _).grown hg hbase (fun k hk => (hown.lt k hk).1)
theorem wpList_app1 {u : World} {y : Value} {t' : TypeId} (E : El P t e z bytes) (hgd : o.guard = none) (s x : Operand)
  (ho : o.op = .call { callee := .builtin .append, args := #[s, x], argTypes := #[t, t] })
  (base : Nat) (v : Value) (n : Nat) (xs : List Value) (hs : a.eval s = v) (hown : u.ownsRow base e 1 v n xs)
  (hx : a.eval x = .slice (some ⟨u.heap.size, 0, none⟩) 1 1) (h1 : y.oneCell' = true)
  (h63 : n + 1 ≤ maxLen) (hbytes : (n + 1) * bytes ≤ 140737488355328) (hbase : base ≤ u.heap.size)
  (h : ∀ v' w', Hid (w'.ownsRow base e 1 v' (n + 1) (xs ++ [y])) → Below base u w' → (∀ g, v.ownBlock ≠ some g → g < u.heap.size → w'.heap[g]? = u.heap[g]?) → (v'.ownBlock = v.ownBlock ∨ ∃ g, v'.ownBlock = some g ∧ u.heap.size ≤ g) → wpList P ops Q rest (a.put o.dst v') w') :
  wpList P ops Q (o :: rest) a (u.alloc (.cells #[y] t')) := by
 refine wpList_app E hgd s x ho base v n xs hs (hown.alloc _) (some ⟨u.heap.size, 0, none⟩) 1 1 [y] hx rfl (fun h => by cases h) (fun ad had => ?_) (fun c hc => ?_) h63 hbytes (by simp; omega) (fun v' w' h2 h3 h4 => h v' w' h2 ?_ ?_ ?_)
 ·obtain rfl := Option.some.inj had
  exact cell_one_new _ _ _
 ·simp at hc; subst hc; exact h1
 ·exact ((Below.refl _ _).alloc hbase _).trans (below_of_grown (hown.alloc _) (by simp; omega) h3)
 ·intro g hg hlt
  rw [h3.block g (by simp; omega) (fun e => hg e.symm)]
  exact Below.heap_alloc _ _ _ hlt
 ·rcases h4 with h4 | h4
  ·exact .inl h4
  ·exact .inr ⟨_, h4, by simp⟩
theorem wpList_mk0 (E : El P t e z bytes) (hg : o.guard = none) (l c : Operand) (hop : o.op = Op.makeSlice t l c)
  (base : Nat) (kl kc : IntKind) (C : Int) (n : Nat) (hl : a.eval l = .int kl 0) (hc : a.eval c = .int kc C) (hC : C = (n : Int)) (hb : bytes * n ≤ 281474976710656) (b3 : n ≤ maxLen) (b4 : base ≤ w.heap.size)
  (hK : ∀ w', Hid (w'.ownsRow base e 1 (.slice (some ⟨w.heap.size, 0, none⟩) 0 n) 0 []) → Below base w w' → wpList P ops Q rest (a.put o.dst (.slice (some ⟨w.heap.size, 0, none⟩) 0 n)) w') :
  wpList P ops Q (o :: rest) a w := by
 obtain ⟨i, hi, hz0, hz1, hz2⟩ := info_parts E.info
 exact wpList_make_own w hg l c t hop base e i z 1 E.ty hi hz0 hz1 kl kc C n hl hc hC (by rw [hz2]; exact hb) b3 b4 fun w' h1 h2 => hK w' h1 ((Below.refl _ _).grown h2 b4 (by simp))
theorem wpList_mk (E : El P t e z bytes) (hg : o.guard = none) (l c : Operand) (hop : o.op = Op.makeSlice t l c)
  (base : Nat) (kl kc : IntKind) (L C : Int) (n : Nat) (hl : a.eval l = .int kl L) (hc : a.eval c = .int kc C) (hL : L = (n : Int)) (hC : C = (n : Int)) (hb : bytes * n ≤ 281474976710656) (b3 : n ≤ maxLen) (b4 : base ≤ w.heap.size)
  (hK : ∀ w', w'.ownsRow base e 1 (.slice (some ⟨w.heap.size, 0, none⟩) n n) n (List.replicate n z) → w.grownBy w' none → wpList P ops Q rest (a.put o.dst (.slice (some ⟨w.heap.size, 0, none⟩) n n)) w') :
  wpList P ops Q (o :: rest) a w := by
 obtain ⟨i, hi, hz0, hz1, hz2⟩ := info_parts E.info
 refine wpList_make_full w hg l c t hop base e i z 1 E.ty hi hz0 hz1 kl kc L C n hl hc hL hC (by rw [hz2]; exact hb) b3 b4 fun w' h1 h2 => hK w' ?_ h2
 have : (madeCells z.cells (n * 1)).toList = List.replicate n z := by
  rw [E.one, Nat.mul_one, toList_madeCells_one]
 rwa [this] at h1
theorem El.elem (E : El P t e z bytes) : P.elem t = e := by
 unfold Program.elem
 simp [E.ty]
theorem El.sizeOf (E : El P t e z bytes) (u : World) : (sizeOf (P.elem t)).run P u = .ok 1 u := by
 obtain ⟨i, hi, _, hz1, _⟩ := info_parts E.info
 rw [E.elem]
 simp [Go.sizeOf, typeInfo, hi, hz1]
theorem El.ty' (E : El P t e z bytes) : P.underlying t = some (.slice (P.elem t)) := by rw [E.elem]; exact E.ty
theorem wpList_cut_l (E : El P t e z bytes) (hg : o.guard = none) (x lo : Operand) (hop : o.op = Op.slice t x (some lo) none none)
  {L : Nat} {A : Option Addr} {n c : Nat} {l : List UInt8} (hx : a.eval x = .slice A n c) (hb : Bs w L A n c l) (k : IntKind) (I : Int) (i : Nat) (hlo : a.eval lo = .int k I) (hI : I = i) (hi : i ≤ n)
  (h : ∀ A' m d, Bs w L A' m d (l.drop i) → wpList P ops Q rest (a.put o.dst (.slice A' m d)) w) : wpList P ops Q (o :: rest) a w := by
 subst hI
 refine wpList_plain hg fun K hK => ?_
 have hrun := run_slice_l (P := P) (w := w) t A n c E.ty' k (i : Int) (by omega) (by omega)
 rw [E.sizeOf] at hrun
 have h2 := hb.cut (i := i) (k := n) hi (Nat.le_refl _)
 rw [List.take_of_length_le (by rw [hb.len]; exact Nat.le_refl _)] at h2
 unfold Oper.wp
 simp [execOp, hop, hx, hlo, run_sliceAt_slice (P := P) (w := w) t _ _ _ _ E.ty', hrun, Result.andThen, sliced]
 exact hK _ _ (h _ _ _ h2)
theorem wpList_cut_h (E : El P t e z bytes) (hg : o.guard = none) (x hi : Operand) (hop : o.op = Op.slice t x none (some hi) none)
  {L : Nat} {A : Option Addr} {n c : Nat} {l : List UInt8} (hx : a.eval x = .slice A n c) (hb : Bs w L A n c l) (kk : IntKind) (I : Int) (k : Nat) (hhi : a.eval hi = .int kk I) (hI : I = k) (hk : k ≤ n)
  (h : ∀ A', Bs w L A' k c (l.take k) → wpList P ops Q rest (a.put o.dst (.slice A' k c)) w) : wpList P ops Q (o :: rest) a w := by
 subst hI
 refine wpList_plain hg fun K hK => ?_
 have hrun := run_slice_h (P := P) (w := w) t A n c E.ty' kk (k : Int) (by omega) (by have := hb.cap; omega)
 rw [E.sizeOf] at hrun
 have h2 := hb.cut (i := 0) (k := k) (Nat.zero_le _) hk
 unfold Oper.wp
 simp [execOp, hop, hx, hhi, run_sliceAt_slice (P := P) (w := w) t _ _ _ _ E.ty', hrun, Result.andThen, sliced]
 exact hK _ _ (h _ h2)
theorem wpList_cut_h_g (E : El P t e z bytes) (hg : Region.wanted o (yielded ops a.tmps) = true) (x hi : Operand) (hop : o.op = Op.slice t x none (some hi) none)
  {L : Nat} {A : Option Addr} {n c : Nat} {l : List UInt8} (hx : a.eval x = .slice A n c) (hb : Bs w L A n c l) (kk : IntKind) (I : Int) (k : Nat) (hhi : a.eval hi = .int kk I) (hI : I = k) (hk : k ≤ n)
  (h : ∀ A', Bs w L A' k c (l.take k) → wpList P ops Q rest (a.put o.dst (.slice A' k c)) w) : wpList P ops Q (o :: rest) a w := by
 subst hI
 refine wpList_step fun K hK => ?_
 rw [if_pos hg]
 have hrun := run_slice_h (P := P) (w := w) t A n c E.ty' kk (k : Int) (by omega) (by have := hb.cap; omega)
 rw [E.sizeOf] at hrun
 have h2 := hb.cut (i := 0) (k := k) (Nat.zero_le _) hk
 unfold Oper.wp
 simp [execOp, hop, hx, hhi, run_sliceAt_slice (P := P) (w := w) t _ _ _ _ E.ty', hrun, Result.andThen, sliced]
 exact hK _ _ (h _ h2)
theorem own_full {base g n : Nat} {xs : List Value} (h : w.ownsRow base e 1 (.slice (some ⟨g, 0, none⟩) n n) n xs) :
  w.heap[g]? = some (.cells xs.toArray e (0, 0)) ∧ base ≤ g ∧ n ≤ maxLen ∧ xs.length = n := by
 rcases h.2 with ⟨h', _⟩ | ⟨g', cap, cur, h', hb, hg, hnc, hcm, hcs, htake⟩
 ·simp at h'
 ·simp only [Value.slice.injEq, Option.some.injEq, Addr.mk.injEq, and_true, true_and] at h'
  obtain ⟨rfl, rfl⟩ := h'
  have e1 : cur.toList = xs := by
   rw [← htake]
   rw [List.take_of_length_le]
   simp [hcs]
  rw [← e1]
  exact ⟨by simpa using hg, hb, hcm, by simp [hcs]⟩
theorem own_of_full {base g n : Nat} {xs : List Value} (h : w.heap[g]? = some (.cells xs.toArray e (0, 0))) (hb : base ≤ g) (hm : n ≤ maxLen) (hl : xs.length = n) :
  w.ownsRow base e 1 (.slice (some ⟨g, 0, none⟩) n n) n xs :=
 ⟨by omega, .inr ⟨g, n, xs.toArray, rfl, hb, h, Nat.le_refl _, hm, by simp [hl], by simp; rw [List.take_of_length_le (by omega)]⟩⟩
theorem wpList_copyBs (E : El P t e z bytes) (hgd : o.guard = none) (d s : Operand)
  (ho : o.op = .call { callee := .builtin .copy, args := #[d, s], argTypes := #[t, t] })
  (base g n : Nat) (xs : List Value) (hd : a.eval d = .slice (some ⟨g, 0, none⟩) n n) (hown : w.ownsRow base e 1 (.slice (some ⟨g, 0, none⟩) n n) n xs)
  {L : Nat} {A : Option Addr} {m c : Nat} {l : List UInt8} (hs : a.eval s = .slice A m c) (hb : Bs w L A m c l)
  (h : ∀ w', Hid (w'.ownsRow base e 1 (.slice (some ⟨g, 0, none⟩) n n) n (cells8 (l.take n) ++ xs.drop m)) → Below base w w' → (∀ k, k ≠ g → w'.heap[k]? = w.heap[k]?) → wpList P ops Q rest (a.put o.dst (goInt (min m n : Nat))) w') :
  wpList P ops Q (o :: rest) a w := by
 obtain ⟨hg, hbg, hm, hl⟩ := own_full hown
 obtain ⟨i, hi, hz0, hz1, hz2⟩ := info_parts E.info
 have hsz : (P.info? e).map (·.size) = some 1 := by rw [hi]; simp [hz1]
 have hlm := hb.len
 by_cases h0 : min m n = 0
 ·refine wpList_copy_nothing hgd d s t t ho e E.ty hsz _ _ _ _ _ _ hd hs h0 ?_
  have e1 : cells8 (l.take n) ++ xs.drop m = xs := by
   rcases Nat.eq_zero_or_pos m with h1 | h1
   ·subst h1
    obtain rfl : l = [] := List.eq_nil_of_length_eq_zero hlm
    simp [cells8]
   ·obtain rfl : n = 0 := by omega
    obtain rfl : xs = [] := List.eq_nil_of_length_eq_zero hl
    simp [cells8]
  have := h w (by rw [e1]; exact hown) (Below.refl _ _) (fun _ _ => rfl)
  rwa [h0] at this
 ·obtain ⟨b, o', rfl, _, _⟩ := hb.cells (by omega)
  have hcl : (cells8 (l.take n)).length = min m n := by rw [cells8_length]; simp; omega
  have hns := hb.news _ rfl
  refine wpList_copy_own hgd d s t t ho e E.ty hsz g 0 n n _ m c hd hs xs.toArray e hg (cells8 (l.take n)) hcl (fun j v hj => hns j v ?_) (by rw [hcl]; simp; omega) (cells8_one _) ?_
  ·obtain ⟨hj', rfl⟩ := cells8_some hj
   rw [cells8_at l j (by simp at hj'; omega)]
   simp
  ·rw [hcl]
   have e2 : (xs.drop (0 + min m n)) = xs.drop m := by
    rcases Nat.le_total m n with h1 | h1
    ·rw [Nat.min_eq_left h1, Nat.zero_add]
    ·rw [Nat.min_eq_right h1, Nat.zero_add, List.drop_of_length_le (by omega), List.drop_of_length_le (by omega)]
   simp only [e2, List.take_zero, List.nil_append]
   refine h _ ?_ (below_setRow (Below.refl _ _) hbg _) (fun k hk => setRow_other _ _ _ _ hk)
   show World.ownsRow _ _ _ _ _ _ _
   refine own_of_full (setRow_heap w g _ _ e _ hg) hbg hm ?_
   rw [List.length_append, hcl, List.length_drop, hl]; omega
end
end Go.Proofs.YtcehkafddlfleaaGreatDoor

namespace Go.Proofs.YtcehkafddlfleaaGreatDoor
theorem snoc_ind {α : Type} {p : List α → Prop} (h0 : p []) (hs : ∀ l b, p l → p (l ++ [b])) (l : List α) : p l := by
 have h : ∀ m : List α, p m.reverse := fun m => by
  induction m with
  | nil => exact h0
  | cons b m ih => rw [List.reverse_cons]; exact hs _ _ ih
 simpa using h l.reverse
def putN (n : Nat) : Nat → List UInt8
 | 0 => []
 | k + 1 => putN (n / 256) k ++ [UInt8.ofNat n]
def getN (l : List UInt8) : Nat := l.foldl (fun a b => a * 256 + b.toNat) 0
theorem putN_length (n k : Nat) : (putN n k).length = k := by
 induction k generalizing n with
 | zero => rfl
 | succ k ih => simp [putN, ih]
theorem pow256 (k : Nat) : 256 ^ (k + 1) = 256 * 256 ^ k := by rw [Nat.pow_succ, Nat.mul_comm]
theorem putN_front (n k : Nat) : putN n (k + 1) = UInt8.ofNat (n / 256 ^ k) :: putN n k := by
 induction k generalizing n with
 | zero => simp [putN]
 | succ k ih =>
  rw [putN, ih (n / 256)]
  rw [show putN n (k + 1) = putN (n / 256) k ++ [UInt8.ofNat n] from rfl]
  rw [Nat.div_div_eq_div_mul, ← pow256]
  rfl
theorem getN_append (l m : List UInt8) : getN (l ++ m) = getN l * 256 ^ m.length + getN m := by
 unfold getN
 rw [List.foldl_append]
 have gen : ∀ (m : List UInt8) (a : Nat), m.foldl (fun a b => a * 256 + b.toNat) a = a * 256 ^ m.length + m.foldl (fun a b => a * 256 + b.toNat) 0 := by
  intro m
  induction m with
  | nil => intro a; simp
  | cons x m ih =>
   intro a
   simp only [List.foldl_cons, List.length_cons]
   rw [ih (a * 256 + x.toNat), ih (0 * 256 + x.toNat), Nat.pow_succ, Nat.add_mul, Nat.zero_mul, Nat.zero_add, Nat.mul_assoc, Nat.mul_comm 256 (256 ^ m.length)]
   omega
 exact gen m _
theorem getN_snoc (l : List UInt8) (b : UInt8) : getN (l ++ [b]) = getN l * 256 + b.toNat := by
 rw [getN_append]; simp [getN]
theorem getN_lt (l : List UInt8) : getN l < 256 ^ l.length := by
 refine snoc_ind (p := fun l => getN l < 256 ^ l.length) (by simp [getN]) (fun l b ih => ?_) l
 ·rw [getN_snoc, List.length_append, List.length_singleton, pow256]
  have := b.toNat_lt
  omega
theorem ofNat_toNat (n : Nat) : (UInt8.ofNat n).toNat = n % 256 := rfl
theorem getN_putN (n k : Nat) : getN (putN n k) = n % 256 ^ k := by
 induction k generalizing n with
 | zero => simp [putN, getN, Nat.mod_one]
 | succ k ih =>
  rw [putN, getN_snoc, ih, ofNat_toNat, pow256, Nat.mod_mul]
  omega
theorem putN_getN (l : List UInt8) : putN (getN l) l.length = l := by
 refine snoc_ind (p := fun l => putN (getN l) l.length = l) rfl (fun l b ih => ?_) l
 ·rw [List.length_append, List.length_singleton, putN, getN_snoc]
  have hb := b.toNat_lt
  rw [show (getN l * 256 + b.toNat) / 256 = getN l by omega, ih]
  congr 1
  have : (UInt8.ofNat (getN l * 256 + b.toNat)) = b := by
   apply UInt8.toNat_inj.1
   rw [ofNat_toNat]; omega
  rw [this]
theorem getN_take_succ (l : List UInt8) (k : Nat) (h : k < l.length) : getN (l.take (k + 1)) = getN (l.take k) * 256 + l[k].toNat := by
 rw [List.take_succ_eq_append_getElem h, getN_snoc]
theorem wrap_u64_nat (n : Nat) : IntKind.u64.wrap (n : Int) = ((n % 18446744073709551616 : Nat) : Int) := by rw [IntKind.wrap_u64]; omega
theorem get_step (g b : Nat) (hb : b < 256) (hg : g * 256 + b < 18446744073709551616) :
  bits .or .u64 (IntKind.u64.wrap ((g : Int) * 256)) (IntKind.u64.wrap (b : Int)) = ((g * 256 + b : Nat) : Int) := by
 have h1 : g * 256 < 18446744073709551616 := Nat.lt_of_le_of_lt (Nat.le_add_right _ _) hg
 have h2 : b < 18446744073709551616 := Nat.lt_of_le_of_lt (Nat.le_add_left _ _) hg
 have e3 := u64_or_nat (g * 256) b h1 h2
 have e4 := nat_join 8 (g * 256) b (by omega) (by omega)
 have e1 : IntKind.u64.wrap ((g : Int) * 256) = ((g * 256 : Nat) : Int) := by
  have := wrap_u64_nat (g * 256)
  rw [Nat.mod_eq_of_lt h1] at this
  rw [← this]; rfl
 have e2 : IntKind.u64.wrap (b : Int) = (b : Int) := by rw [wrap_u64_nat, Nat.mod_eq_of_lt h2]
 rw [e1, e2, e3, e4]
theorem put_spot {n N k : Nat} (h : k < N) : (cells8 (List.replicate (N - k) 0 ++ putN n k))[N - 1 - k]? = some (.int .u8 0) := by
 rw [cells8_at _ _ (by simp [putN_length]; omega)]
 rw [List.getElem_append_left (by simp; omega)]
 simp
theorem put_row {n N k : Nat} (h : k < N) : (cells8 (List.replicate (N - k) 0 ++ putN n k)).set (N - 1 - k) (.int .u8 ((n : Int) / 2 ^ (8 * k) % 256)) = cells8 (List.replicate (N - (k + 1)) 0 ++ putN n (k + 1)) := by
 have e : List.replicate (N - k) (0 : UInt8) = List.replicate (N - (k + 1)) 0 ++ [0] := by
  rw [show N - k = N - (k + 1) + 1 by omega, List.replicate_succ']
 rw [e, putN_front, cells8_append, cells8_append, cells8_append]
 have hl : (cells8 (List.replicate (N - (k + 1)) 0)).length = N - 1 - k := by rw [cells8_length]; simp; omega
 rw [List.append_assoc, List.set_append_right _ _ (by omega), hl, Nat.sub_self]
 have h2 : ((n : Int) / 2 ^ (8 * k) % 256) = (((UInt8.ofNat (n / 256 ^ k)).toNat : Nat) : Int) := by
  rw [ofNat_toNat, show (256 : Nat) = 2 ^ 8 from rfl, ← Nat.pow_mul]
  simp
 rw [h2]
 simp [cells8]
theorem putN_at (n N k : Nat) (h : k < N) : (putN n N)[k]'(by rw [putN_length]; exact h) = UInt8.ofNat (n / 256 ^ (N - 1 - k)) := by
 induction N generalizing k with
 | zero => omega
 | succ N ih =>
  simp only [putN_front]
  cases k with
  | zero => simp
  | succ k => simp only [List.getElem_cons_succ]; rw [ih k (by omega)]; congr 3; omega
theorem getN_lt8 (l : List UInt8) (h : l.length ≤ 8) : getN l < 18446744073709551616 := by
 have h1 := getN_lt l
 have h2 : (256 : Nat) ^ l.length ≤ 256 ^ 8 := Nat.pow_le_pow_right (by decide) h
 have e : (256 : Nat) ^ 8 = 18446744073709551616 := by decide
 rw [e] at h2
 omega
end Go.Proofs.YtcehkafddlfleaaGreatDoor

namespace Go.Proofs.YtcehkafddlfleaaGreatDoor
open Go.RowKit
def cells32 (l : List UInt32) : List Value := l.map fun b => Value.int .u32 (b.toNat : Int)
theorem cells32_length (l : List UInt32) : (cells32 l).length = l.length := by simp [cells32]
theorem cells32_append (l m : List UInt32) : cells32 (l ++ m) = cells32 l ++ cells32 m := by simp [cells32]
theorem cells32_one (l : List UInt32) : ∀ u ∈ cells32 l, u.oneCell' = true := by
 intro u hu
 obtain ⟨_, _, rfl⟩ := List.mem_map.1 hu
 rfl
theorem cells32_at (l : List UInt32) (j : Nat) (h : j < l.length) : (cells32 l)[j]? = some (.int .u32 (l[j].toNat : Int)) := by
 simp [cells32, List.getElem?_eq_getElem h]
theorem cells32_some {l : List UInt32} {j : Nat} {u : Value} (h : (cells32 l)[j]? = some u) : ∃ hj : j < l.length, u = .int .u32 (l[j].toNat : Int) := by
 have hj : j < l.length := by
  have := (List.getElem?_eq_some_iff.1 h).1
  simpa [cells32] using this
 refine ⟨hj, ?_⟩
 rw [cells32_at l j hj] at h
 exact (Option.some.inj h).symm
structure Us (w : World) (B : Nat) (A : Option Addr) (n c : Nat) (l : List UInt32) : Prop where
 len : l.length = n
 cap : n ≤ c
 max : c ≤ maxLen
 nil : A = none → c = 0
 cells : 0 < n → ∃ b o, A = some ⟨b, o, none⟩ ∧ b < B ∧ ∀ j (h : j < l.length), w.cell? ⟨b, o + j, none⟩ = some (.int .u32 (l[j].toNat : Int))
section
variable {w w' : World} {B B' : Nat} {A : Option Addr} {n c : Nat} {l : List UInt32}
theorem Us.keep (h : Us w B A n c l) (hk : ∀ p : Addr, p.block < B → w'.cell? p = w.cell? p) : Us w' B A n c l :=
 ⟨h.len, h.cap, h.max, h.nil, fun h0 => by
  obtain ⟨b, o, hA, hb, hc⟩ := h.cells h0
  exact ⟨b, o, hA, hb, fun j hj => (hk _ hb).trans (hc j hj)⟩⟩
theorem Us.more (h : Us w B A n c l) (hB : B ≤ B') : Us w B' A n c l :=
 ⟨h.len, h.cap, h.max, h.nil, fun h0 => by
  obtain ⟨b, o, hA, hb, hc⟩ := h.cells h0
  exact ⟨b, o, hA, by omega, hc⟩⟩
theorem Us.below (h : Us w B A n c l) (hb : Below B w w') : Us w' B A n c l := h.keep fun _ hp => hb.cell hp
theorem Us.next {w0 w1 : World} (h : Us w0 B A n c l) (hb : Below w0.heap.size w0 w1) (hB : B ≤ w0.heap.size) : Us w1 w1.heap.size A n c l :=
 (h.below (hb.mono hB)).more (Nat.le_trans hB hb.size)
theorem Us.cell (h : Us w B A n c l) {i : Nat} (hi : i < n) : ∃ b o, A = some ⟨b, o, none⟩ ∧ b < B ∧ w.cell? ⟨b, o + i, none⟩ = some (.int .u32 ((l[i]'(by have := h.len; omega)).toNat : Int)) := by
 obtain ⟨b, o, hA, hb, hc⟩ := h.cells (by omega)
 exact ⟨b, o, hA, hb, hc i (by have := h.len; omega)⟩
theorem Us.news (h : Us w B A n c l) : ∀ ad, A = some ad → ∀ j u, (cells32 l)[j]? = some u → w.cell? (ad.add j) = some u := by
 intro ad hA j u hu
 obtain ⟨hj, rfl⟩ := cells32_some hu
 obtain ⟨b, o, hA', _, hc⟩ := h.cells (by have := h.len; omega)
 rw [hA] at hA'
 obtain rfl := Option.some.inj hA'
 rw [Addr.add_lit]
 exact hc j hj
theorem Us.laid (w : World) (t : TypeId) (l : List UInt32) (hm : l.length ≤ maxLen) : Us (w.alloc (.cells (cells32 l).toArray t)) (w.heap.size + 1) (some ⟨w.heap.size, 0, none⟩) l.length l.length l := by
 refine ⟨rfl, Nat.le_refl _, hm, (fun h => by cases h), fun _ => ⟨w.heap.size, 0, rfl, by omega, fun j hj => ?_⟩⟩
 rw [World.cell?_alloc_at _ _ _ _ rfl]
 have := cells32_at l j hj
 simpa using this
end
theorem u32_add (a b : UInt32) : IntKind.u32.wrap ((a.toNat : Int) + (b.toNat : Int)) = ((a + b).toNat : Int) := by
 rw [IntKind.wrap_u32, UInt32.toNat_add]; omega
theorem u32_xor' (a b : UInt32) : bits .xor .u32 (a.toNat : Int) (b.toNat : Int) = ((a ^^^ b).toNat : Int) := by
 rw [u32_xor_nat _ _ a.toNat_lt b.toNat_lt, UInt32.toNat_xor]
theorem u32_or' (a b : UInt32) : bits .or .u32 (a.toNat : Int) (b.toNat : Int) = ((a ||| b).toNat : Int) := by
 rw [u32_or_nat _ _ a.toNat_lt b.toNat_lt, UInt32.toNat_or]
theorem u32_and' (a b : UInt32) : bits .and .u32 (a.toNat : Int) (b.toNat : Int) = ((a &&& b).toNat : Int) := by
 rw [u32_and_nat _ _ a.toNat_lt b.toNat_lt, UInt32.toNat_and]
end Go.Proofs.YtcehkafddlfleaaGreatDoor

namespace Go.Proofs.YtcehkafddlfleaaGreatDoor
open Go.RowKit
def turnR (x : UInt32) (n : Nat) : UInt32 := UInt32.ofNat (x.toNat / 2 ^ n) ||| UInt32.ofNat (x.toNat * 2 ^ (32 - n))
theorem turnR_val (x : UInt32) (n : Nat) : bits .or .u32 ((x.toNat : Int) / 2 ^ n) ((x.toNat : Int) * 2 ^ (32 - n) % 4294967296) = ((turnR x n).toNat : Int) := by
 have h1 : (x.toNat : Int) / 2 ^ n = ((UInt32.ofNat (x.toNat / 2 ^ n)).toNat : Int) := by
  have e : (UInt32.ofNat (x.toNat / 2 ^ n)).toNat = (x.toNat / 2 ^ n) % 4294967296 := rfl
  rw [e, Nat.mod_eq_of_lt (Nat.lt_of_le_of_lt (Nat.div_le_self _ _) x.toNat_lt)]
  simp
 have h2 : (x.toNat : Int) * 2 ^ (32 - n) % 4294967296 = ((UInt32.ofNat (x.toNat * 2 ^ (32 - n))).toNat : Int) := by
  have e : (UInt32.ofNat (x.toNat * 2 ^ (32 - n))).toNat = (x.toNat * 2 ^ (32 - n)) % 4294967296 := rfl
  rw [e]; simp
 rw [h1, h2, u32_or']
 rfl
theorem u32_shr3 (x : UInt32) : (x.toNat : Int) / (8 : Int) = ((x >>> 3).toNat : Int) := by
 have e : (x >>> 3).toNat = x.toNat / 8 := by rw [UInt32.toNat_shiftRight]; simp [Nat.shiftRight_eq_div_pow]
 rw [e]; rfl
theorem u32_shr10 (x : UInt32) : (x.toNat : Int) / (1024 : Int) = ((x >>> 10).toNat : Int) := by
 have e : (x >>> 10).toNat = x.toNat / 1024 := by rw [UInt32.toNat_shiftRight]; simp [Nat.shiftRight_eq_div_pow]
 rw [e]; rfl
def sig0 (x : UInt32) : UInt32 := turnR x 7 ^^^ turnR x 18 ^^^ x >>> 3
def sig1 (y : UInt32) : UInt32 := turnR y 17 ^^^ turnR y 19 ^^^ y >>> 10
def nextW (m : List UInt32) : UInt32 := m.getD (m.length - 16) 0 + sig0 (m.getD (m.length - 15) 0) + m.getD (m.length - 7) 0 + sig1 (m.getD (m.length - 2) 0)
def extW : Nat → List UInt32 → List UInt32
 | 0, l => l
 | k + 1, l => extW k l ++ [nextW (extW k l)]
theorem extW_length (k : Nat) (l : List UInt32) : (extW k l).length = l.length + k := by
 induction k with
 | zero => rfl
 | succ k ih => simp [extW, ih]; omega
def word (b : List UInt8) (i : Nat) : UInt32 := UInt32.ofNat (getN ((b.take (4 * i + 4)).drop (4 * i)))
def first (b : List UInt8) (k : Nat) : List UInt32 := (List.range k).map (word b)
theorem first_length (b : List UInt8) (k : Nat) : (first b k).length = k := by simp [first]
def wordsL (b : List UInt8) : List UInt32 := extW 48 (first b 16)
theorem wordsL_length (b : List UInt8) : (wordsL b).length = 64 := by unfold wordsL; rw [extW_length, first_length]
structure ShSt where
 (a b c d e f g h : UInt32)
def ShSt.list (s : ShSt) : List UInt32 := [s.a, s.b, s.c, s.d, s.e, s.f, s.g, s.h]
def big0 (x : UInt32) : UInt32 := turnR x 2 ^^^ turnR x 13 ^^^ turnR x 22
def big1 (x : UInt32) : UInt32 := turnR x 6 ^^^ turnR x 11 ^^^ turnR x 25
def chR (x y z : UInt32) : UInt32 := x &&& y ||| (x ^^^ 4294967295) &&& z
def mjR (x y z : UInt32) : UInt32 := x &&& y ||| x &&& z ||| y &&& z
def tOf (s : ShSt) (k w : UInt32) : UInt32 := s.h + big1 s.e + chR s.e s.f s.g + k + w
def uOf (s : ShSt) : UInt32 := big0 s.a + mjR s.a s.b s.c
def rnd (s : ShSt) (k w : UInt32) : ShSt := ⟨tOf s k w + uOf s, s.a, s.b, s.c, s.d + tOf s k w, s.e, s.f, s.g⟩
def KL : List UInt32 := [0x428a2f98, 0x71374491, 0xb5c0fbcf, 0xe9b5dba5, 0x3956c25b, 0x59f111f1, 0x923f82a4, 0xab1c5ed5, 0xd807aa98, 0x12835b01, 0x243185be, 0x550c7dc3, 0x72be5d74, 0x80deb1fe, 0x9bdc06a7, 0xc19bf174, 0xe49b69c1, 0xefbe4786, 0x0fc19dc6, 0x240ca1cc, 0x2de92c6f, 0x4a7484aa, 0x5cb0a9dc, 0x76f988da, 0x983e5152, 0xa831c66d, 0xb00327c8, 0xbf597fc7, 0xc6e00bf3, 0xd5a79147, 0x06ca6351, 0x14292967, 0x27b70a85, 0x2e1b2138, 0x4d2c6dfc, 0x53380d13, 0x650a7354, 0x766a0abb, 0x81c2c92e, 0x92722c85, 0xa2bfe8a1, 0xa81a664b, 0xc24b8b70, 0xc76c51a3, 0xd192e819, 0xd6990624, 0xf40e3585, 0x106aa070, 0x19a4c116, 0x1e376c08, 0x2748774c, 0x34b0bcb5, 0x391c0cb3, 0x4ed8aa4a, 0x5b9cca4f, 0x682e6ff3, 0x748f82ee, 0x78a5636f, 0x84c87814, 0x8cc70208, 0x90befffa, 0xa4506ceb, 0xbef9a3f7, 0xc67178f2]
theorem KL_length : KL.length = 64 := by rfl
def rounds (W : List UInt32) (s : ShSt) : Nat → ShSt
 | 0 => s
 | n + 1 => rnd (rounds W s n) (KL.getD n 0) (W.getD n 0)
def addS (s x : ShSt) : ShSt := ⟨s.a + x.a, s.b + x.b, s.c + x.c, s.d + x.d, s.e + x.e, s.f + x.f, s.g + x.g, s.h + x.h⟩
def stepS (s : ShSt) (b : List UInt8) : ShSt := addS s (rounds (wordsL b) s 64)
def St0 : ShSt := ⟨0x6a09e667, 0xbb67ae85, 0x3c6ef372, 0xa54ff53a, 0x510e527f, 0x9b05688c, 0x1f83d9ab, 0x5be0cd19⟩
def foldB (l : List UInt8) : Nat → ShSt
 | 0 => St0
 | k + 1 => stepS (foldB l k) ((l.take (64 * k + 64)).drop (64 * k))
def ending (n : Nat) : List UInt8 := 128 :: (List.replicate ((119 - n % 64) % 64) 0 ++ putN (8 * n) 8)
def padded (l : List UInt8) : List UInt8 := l ++ ending l.length
def digestL (s : ShSt) : List UInt8 := (s.list.map fun x => putN x.toNat 4).flatten
def shaL (l : List UInt8) : List UInt8 := digestL (foldB (padded l) ((padded l).length / 64))
end Go.Proofs.YtcehkafddlfleaaGreatDoor

namespace Go.Proofs.YtcehkafddlfleaaGreatDoor
theorem el8 : El Tryz.prog 29 5 (.int .u8 0) 1 := ⟨Tryz.underlying29, by kernel_rfl, rfl⟩
theorem elS : El Tryz.prog 33 29 (.slice none 0 0) 24 := ⟨Tryz.underlying33, by kernel_rfl, rfl⟩
end Go.Proofs.YtcehkafddlfleaaGreatDoor

namespace Go.Proofs.YtcehkafddlfleaaGreatDoor
theorem take_flat (ls : List (List UInt8)) (k : Nat) (h : k < ls.length) : (ls.take (k + 1)).flatten = (ls.take k).flatten ++ ls[k] := by
 rw [List.take_succ_eq_append_getElem h, List.flatten_append]; simp
theorem take_flat_le (ls : List (List UInt8)) (k : Nat) : (ls.take k).flatten.length ≤ ls.flatten.length := by
 conv => rhs; rw [← List.take_append_drop k ls, List.flatten_append, List.length_append]
 omega
end Go.Proofs.YtcehkafddlfleaaGreatDoor

namespace Go.Proofs.YtcehkafddlfleaaGreatDoor
open Go.RowKit
set_option maxHeartbeats 400000 in
theorem same_any (A B : Option Addr) (n c m d : Nat) (xs ys : List UInt8) (w : World) (L M : Nat) (ha : Bs w L A n c xs) (hb : Bs w M B m d ys) :
  Calls Tryz.prog 34 #[.slice A n c, .slice B m d] w fun e w' => e = .returned (.bool (xs == ys)) ∧ w = w' := by
 have e1 := ha.text Tryz.underlying29 Tryz.underlying5 Tryz.underlying9
 have e2 := hb.text Tryz.underlying29 Tryz.underlying5 Tryz.underlying9
 clear ha hb
 go_enter Tryz.func34, Tryz.ntmps34
 go_wp2
 go_ret
 exact ⟨rfl, rfl⟩
end Go.Proofs.YtcehkafddlfleaaGreatDoor
