/- Lists of byte slices that a call makes: rows of slices, and what their slices read as; fields by their widths. No program is named here. -/
import Derived.Test.YtaedlaeflliibaaPure
import Derived.Test.YtaedlaeflliibaaLaws
namespace Go.Proofs.Ytaedlaeflliibaa
open Go.RowKit

/-- The values are slices that read as the lists fs; those that have anything lie below B, and not in block g. -/
structure Fs (w : World) (B : Nat) (g : Option Nat) (vals : List Value) (fs : List (List UInt8)) : Prop where
  len : vals.length = fs.length
  at' : ∀ j (h1 : j < vals.length) (h2 : j < fs.length), ∃ A n c, vals[j] = .slice A n c ∧ Bs w B A n c fs[j] ∧ ∀ ad, A = some ad → 0 < n → g ≠ some ad.block
section
variable {w w' : World} {B B' : Nat} {g : Option Nat} {vals : List Value} {fs : List (List UInt8)}
theorem Fs.zero (w : World) (B : Nat) (g : Option Nat) : Fs w B g [] [] := ⟨rfl, fun j h _ => absurd h (by simp)⟩
theorem Fs.below (h : Fs w B g vals fs) (hb : Below B w w') : Fs w' B g vals fs :=
  ⟨h.len, fun j h1 h2 => by
    obtain ⟨A, n, c, e, hbs, hg⟩ := h.at' j h1 h2
    exact ⟨A, n, c, e, hbs.below hb, hg⟩⟩
theorem Fs.more (h : Fs w B g vals fs) (hB : B ≤ B') : Fs w B' g vals fs :=
  ⟨h.len, fun j h1 h2 => by
    obtain ⟨A, n, c, e, hbs, hg⟩ := h.at' j h1 h2
    exact ⟨A, n, c, e, hbs.more hB, hg⟩⟩
theorem Bs.grown {g : Option Nat} {A : Option Addr} {n c : Nat} {l : List UInt8} (h : Bs w B A n c l) (hk : ∀ k, g ≠ some k → k < B → w'.heap[k]? = w.heap[k]?) (hg : ∀ ad, A = some ad → 0 < n → g ≠ some ad.block) : Bs w' B A n c l :=
  ⟨h.len, h.cap, h.max, h.nil, fun h0 => by
    obtain ⟨b, o, hA, hb, hc⟩ := h.cells h0
    refine ⟨b, o, hA, hb, fun j hj => ?_⟩
    rw [← hc j hj]
    exact World.cell?_of_block (w := w) (hk b (hg _ hA h0) hb)⟩
theorem Fs.grown (h : Fs w B g vals fs) (hk : ∀ k, g ≠ some k → k < B → w'.heap[k]? = w.heap[k]?) : Fs w' B g vals fs :=
  ⟨h.len, fun j h1 h2 => by
    obtain ⟨A, n, c, e, hbs, hg⟩ := h.at' j h1 h2
    exact ⟨A, n, c, e, hbs.grown hk hg, hg⟩⟩
theorem Fs.move {g' : Option Nat} (h : Fs w B g vals fs) (hg' : g' = g ∨ ∃ k, g' = some k ∧ B ≤ k) : Fs w B g' vals fs :=
  ⟨h.len, fun j h1 h2 => by
    obtain ⟨A, n, c, e, hbs, hg⟩ := h.at' j h1 h2
    refine ⟨A, n, c, e, hbs, fun ad hA h0 => ?_⟩
    rcases hg' with rfl | ⟨k, rfl, hk⟩
    · exact hg ad hA h0
    · obtain ⟨b, o, hA', hb, _⟩ := hbs.cells h0
      rw [hA] at hA'
      obtain rfl := Option.some.inj hA'
      intro e; have := Option.some.inj e; simp at this; omega⟩
theorem Fs.snoc (h : Fs w B g vals fs) {A : Option Addr} {n c : Nat} {l : List UInt8} (hb : Bs w B A n c l) (hg : ∀ ad, A = some ad → 0 < n → g ≠ some ad.block) :
    Fs w B g (vals ++ [.slice A n c]) (fs ++ [l]) := by
  refine ⟨by simp [h.len], fun j h1 h2 => ?_⟩
  by_cases hj : j < vals.length
  · rw [List.getElem_append_left hj, List.getElem_append_left (by rw [← h.len]; exact hj)]
    exact h.at' j hj _
  · have hjv : j = vals.length := by simp at h1; omega
    have hjf : j = fs.length := by rw [← h.len]; exact hjv
    refine ⟨A, n, c, ?_, ?_, hg⟩
    · rw [List.getElem_append_right (by omega)]; simp [hjv]
    · rw [List.getElem_append_right (by omega)]; simpa [hjf] using hb
theorem Fs.lists {base : Nat} {e : TypeId} {v : Value} {k : Nat} (h : Fs w B g vals fs) (hown : w.ownsRow base e 1 v k vals) (hB : w.heap.size ≤ B) : ∃ A c, v = .slice A k c ∧ Ls w B A k c fs := by
  have hl : vals.length = k := by have := hown.1; omega
  rcases hown.2 with ⟨rfl, rfl⟩ | ⟨g', cap, cur, rfl, hg, hh, hn, hm, hs, ht⟩
  · obtain rfl : vals = [] := List.eq_nil_of_length_eq_zero hl
    obtain rfl : fs = [] := List.eq_nil_of_length_eq_zero (by rw [← h.len]; rfl)
    exact ⟨none, 0, rfl, Ls.zero w _⟩
  · refine ⟨some ⟨g', 0, none⟩, cap, rfl, by rw [← h.len]; exact hl, hn, hm, (fun h => by cases h), fun h0 => ⟨g', 0, rfl, ?_, fun j hj => ?_⟩⟩
    · have := (Array.getElem?_eq_some_iff.1 hh).1; omega
    · have hjv : j < vals.length := by rw [h.len]; exact hj
      obtain ⟨A, n, c, e', hbs, _⟩ := h.at' j hjv hj
      refine ⟨A, n, c, ?_, hbs⟩
      have := hown.cells (g := g') rfl j (vals[j]) (List.getElem?_eq_getElem hjv)
      rw [Addr.add_lit, e'] at this
      exact this
/-- one slice, laid in a block of its own, is a list of one -/
theorem Ls.one {A : Option Addr} {n c : Nat} {l : List UInt8} (t : TypeId) (h : Bs w w.heap.size A n c l) : Ls (w.alloc (.cells #[.slice A n c] t)) (w.heap.size + 1) (some ⟨w.heap.size, 0, none⟩) 1 1 [l] := by
  refine ⟨rfl, Nat.le_refl _, by simp [maxLen], (fun h => by cases h), fun _ => ⟨w.heap.size, 0, rfl, by omega, fun j hj => ?_⟩⟩
  obtain rfl : j = 0 := by simp at hj; omega
  refine ⟨A, n, c, ?_, (h.alloc (Nat.le_refl _) _).more (by omega)⟩
  rw [World.cell?_alloc_at _ _ _ _ rfl]; rfl
theorem Ls.two {A A2 : Option Addr} {n c n2 c2 : Nat} {l l2 : List UInt8} (t : TypeId) (h : Bs w w.heap.size A n c l) (h2 : Bs w w.heap.size A2 n2 c2 l2) : Ls (w.alloc (.cells #[.slice A n c, .slice A2 n2 c2] t)) (w.heap.size + 1) (some ⟨w.heap.size, 0, none⟩) 2 2 [l, l2] := by
  refine ⟨rfl, Nat.le_refl _, by simp [maxLen], (fun h => by cases h), fun _ => ⟨w.heap.size, 0, rfl, by omega, fun j hj => ?_⟩⟩
  rcases (by simp at hj; omega : j = 0 ∨ j = 1) with rfl | rfl
  · refine ⟨A, n, c, ?_, (h.alloc (Nat.le_refl _) _).more (by omega)⟩
    rw [World.cell?_alloc_at _ _ _ _ rfl]; rfl
  · refine ⟨A2, n2, c2, ?_, (h2.alloc (Nat.le_refl _) _).more (by omega)⟩
    rw [World.cell?_alloc_at _ _ _ _ rfl]; rfl
end

/-- where the k-th field begins -/
def off (ws : List Int) (k : Nat) : Nat := ((ws.take k).map Int.toNat).sum
/-- the fields, one behind the other, as far as there is anything -/
def fieldsL : List UInt8 → List Int → List (List UInt8)
  | _, [] => []
  | b, w :: ws => b.take w.toNat :: fieldsL (b.drop w.toNat) ws
/-- why there are none -/
def cutE (b : List UInt8) (ws : List Int) : Nat := if b.length < off ws ws.length then 3 else if off ws ws.length < b.length then 4 else 0
def cutF (b : List UInt8) (ws : List Int) : List (List UInt8) := if cutE b ws = 0 then fieldsL b ws else []

theorem off_zero (ws : List Int) : off ws 0 = 0 := rfl
theorem off_succ (ws : List Int) (k : Nat) (h : k < ws.length) : off ws (k + 1) = off ws k + ws[k].toNat := by
  unfold off
  rw [List.take_succ_eq_append_getElem h, List.map_append, List.sum_append]; rfl
theorem off_mono (ws : List Int) (j k : Nat) (h : j ≤ k) : off ws j ≤ off ws k := by
  unfold off
  have e : ws.take j = (ws.take k).take j := by rw [List.take_take]; congr 1; omega
  rw [e]
  conv => rhs; rw [← List.take_append_drop j (ws.take k), List.map_append, List.sum_append]
  omega
theorem cutE_short {b : List UInt8} {ws : List Int} {k N rn : Nat} (hk : k + 1 ≤ ws.length) (h1 : off ws (k + 1) = off ws k + N) (h2 : off ws k + rn = b.length) (h3 : rn < N) : cutE b ws = 3 := by
  have := off_mono ws (k + 1) ws.length hk
  unfold cutE
  rw [if_pos (by omega)]
theorem cutE_left {b : List UInt8} {ws : List Int} {rn : Nat} (h2 : off ws ws.length + rn = b.length) (h3 : 0 < rn) : cutE b ws = 4 := by
  unfold cutE
  rw [if_neg (by omega), if_pos (by omega)]
theorem cutE_ok {b : List UInt8} {ws : List Int} (h2 : off ws ws.length = b.length) : cutE b ws = 0 := by
  unfold cutE
  rw [if_neg (by omega), if_neg (by omega)]
theorem cutF_bad {b : List UInt8} {ws : List Int} (h : cutE b ws ≠ 0) : cutF b ws = [] := by unfold cutF; rw [if_neg h]
theorem cutF_ok {b : List UInt8} {ws : List Int} (h : cutE b ws = 0) : cutF b ws = fieldsL b ws := by unfold cutF; rw [if_pos h]
theorem fieldsL_length (b : List UInt8) (ws : List Int) : (fieldsL b ws).length = ws.length := by
  induction ws generalizing b with
  | nil => rfl
  | cons w ws ih => simp [fieldsL, ih]
theorem fieldsL_snoc (b : List UInt8) (ws : List Int) (z : Int) : fieldsL b (ws ++ [z]) = fieldsL b ws ++ [(b.drop (off ws ws.length)).take z.toNat] := by
  induction ws generalizing b with
  | nil => simp [fieldsL, off]
  | cons w ws ih =>
    simp only [List.cons_append, fieldsL, ih]
    simp [off, List.drop_drop]
theorem fieldsL_take (b : List UInt8) (ws : List Int) (k : Nat) (h : k < ws.length) : fieldsL b (ws.take (k + 1)) = fieldsL b (ws.take k) ++ [(b.drop (off ws k)).take ws[k].toNat] := by
  rw [List.take_succ_eq_append_getElem h, fieldsL_snoc]
  have : off (ws.take k) (ws.take k).length = off ws k := by
    unfold off; rw [List.take_of_length_le (Nat.le_refl _)]
  rw [this]
theorem fieldsL_flatten (b : List UInt8) (ws : List Int) (h : off ws ws.length ≤ b.length) : (fieldsL b ws).flatten = b.take (off ws ws.length) := by
  induction ws generalizing b with
  | nil => simp [fieldsL, off]
  | cons w ws ih =>
    have e : off (w :: ws) (w :: ws).length = w.toNat + off ws ws.length := by simp [off]
    rw [e] at h ⊢
    rw [fieldsL, List.flatten_cons, ih _ (by simp; omega), List.take_add]
end Go.Proofs.Ytaedlaeflliibaa
