/- '==' and '!=' between two arrays of bytes. No program is named here.
   Numbers as bytes, the greatest first, and back: plain lemmas.
   Lists of byte slices that a call makes: rows of slices, and what their slices read as; fields by their widths. No program is named here.
   What stays true of the world over a region that draws its order; lists of slices that have just been laid. No program is named here.
   A slice of a slice, in a region that draws its order. No program is named here.
   A struct or an array, built of one part. No program is named here.
   The element types of this seat's slices.
   The contract of codec's Put.
   The contract of codec's Pad.
   The contracts of codec.Get and of the document's Get and Put.
   The contract of Join (with slices.Concat and slices.Grow).
   The contract of the document's Pad.
   Arrays out of slices; heads as bytes; Put, Pad and Join with what they answer. -/
import Derived.Test.YtckmobpjdpjocaaDoorG01
import Derived.ChangeKeysEq
import Derived.Laws.StructEq
import Derived.Deep.RegionHeld3
import Derived.Laws.Tables
import Derived.Test.YtckmobpjdpjocaaDoorRows
import Derived.Lib.AppendZeros
import Derived.Laws.Cover3
namespace Go.Proofs.YtckmobpjdpjocaaDoor
open Go.RowKit

theorem run_eqItems_bytes {P : Program} {e : TypeId} (he : P.underlying e = some (.int .u8)) (hc : P.cellsOf e = 1) (w : World) (d : Nat) (l m : List UInt8) (hl : l.length = m.length) :
    ∀ (k i : Nat), i + k = l.length → (Op.eqItems (d + 1) e (P.cellsOf e) (cells8 l).toArray (cells8 m).toArray (List.range' i k)).run P w = .ok (l.drop i == m.drop i) w
  | 0, i, h => by
    rw [List.drop_of_length_le (by omega), List.drop_of_length_le (by omega)]
    simp [Op.eqItems]
  | k + 1, i, h => by
    have hi : i < l.length := by omega
    have hi2 : i < m.length := by omega
    have ih := run_eqItems_bytes he hc w d l m hl k (i + 1) (by omega)
    have p1 : (part e (cells8 l).toArray (i * P.cellsOf e)).run P w = .ok (.int .u8 (l[i].toNat : Int)) w := by
      rw [hc, Nat.mul_one]
      exact run_part_plain w (by simp [Program.plainKey, he]) (by simpa using cells8_at l i hi)
    have p2 : (part e (cells8 m).toArray (i * P.cellsOf e)).run P w = .ok (.int .u8 (m[i].toNat : Int)) w := by
      rw [hc, Nat.mul_one]
      exact run_part_plain w (by simp [Program.plainKey, he]) (by simpa using cells8_at m i hi2)
    rw [List.range'_succ]
    simp only [Op.eqItems, Sem.run_bind, p1, p2, Result.andThen_ok, run_equalIn_int w d e .u8 .u8 _ _ he]
    rw [List.drop_eq_getElem_cons hi, List.drop_eq_getElem_cons hi2, List.cons_beq_cons]
    have e1 : ((l[i].toNat : Int) == (m[i].toNat : Int)) = (l[i] == m[i]) := by
      rw [Bool.eq_iff_iff]
      simp only [beq_iff_eq]
      exact ⟨fun h => UInt8.toNat_inj.1 (by omega), fun h => by rw [h]⟩
    rw [e1]
    cases h4 : l[i] == m[i]
    · simp
    · simpa using ih

/-- two arrays of bytes, held against each other -/
structure EqB (P : Program) (t e : TypeId) (n : Nat) : Prop where
  ty : P.underlying t = some (.array n e)
  el : P.underlying e = some (.int .u8)
  one : P.cellsOf e = 1
theorem run_eql_bytes {P : Program} {t e : TypeId} {n : Nat} (E : EqB P t e n) (w : World) (l m : List UInt8) (hl : l.length = n) (hm : m.length = n) :
    (binOp .eql t (.agg (cells8 l).toArray) (.agg (cells8 m).toArray)).run P w = .ok (.bool (l == m)) w := by
  obtain ⟨i, hi⟩ : ∃ i, P.info? e = some i := info_of_underlying E.el
  rw [run_eql_struct, run_equalIn_array w 9999 _ _ E.ty hi, List.range_eq_range', run_eqItems_bytes E.el E.one w 9998 l m (by omega) n 0 (by omega)]
  simp
theorem run_equalIn_bytes {P : Program} {t e : TypeId} {n : Nat} (E : EqB P t e n) (w : World) (l m : List UInt8) (hl : l.length = n) (hm : m.length = n) :
    (Op.equalIn 10000 t (.agg (cells8 l).toArray) (.agg (cells8 m).toArray)).run P w = .ok (l == m) w := by
  obtain ⟨i, hi⟩ : ∃ i, P.info? e = some i := info_of_underlying E.el
  rw [run_equalIn_array w 9999 _ _ E.ty hi, List.range_eq_range', run_eqItems_bytes E.el E.one w 9998 l m (by omega) n 0 (by omega)]
  simp
theorem run_neq_bytes {P : Program} {t e : TypeId} {n : Nat} (E : EqB P t e n) (w : World) (l m : List UInt8) (hl : l.length = n) (hm : m.length = n) :
    (binOp .neq t (.agg (cells8 l).toArray) (.agg (cells8 m).toArray)).run P w = .ok (.bool (!(l == m))) w := by
  obtain ⟨i, hi⟩ : ∃ i, P.info? e = some i := info_of_underlying E.el
  rw [run_neq_struct, run_equalIn_array w 9999 _ _ E.ty hi, List.range_eq_range', run_eqItems_bytes E.el E.one w 9998 l m (by omega) n 0 (by omega)]
  simp
end Go.Proofs.YtckmobpjdpjocaaDoor

namespace Go.Proofs.YtckmobpjdpjocaaDoor

theorem snoc_ind {α : Type} {p : List α → Prop} (h0 : p []) (hs : ∀ l b, p l → p (l ++ [b])) (l : List α) : p l := by
  have h : ∀ m : List α, p m.reverse := fun m => by
    induction m with
    | nil => exact h0
    | cons b m ih => rw [List.reverse_cons]; exact hs _ _ ih
  simpa using h l.reverse

/-- n's lowest k bytes, the greatest first -/
def putN (n : Nat) : Nat → List UInt8
  | 0 => []
  | k + 1 => putN (n / 256) k ++ [UInt8.ofNat n]
/-- the number of bytes -/
def getN (l : List UInt8) : Nat := l.foldl (fun a b => a * 256 + b.toNat) 0

theorem putN_length (n k : Nat) : (putN n k).length = k := by
  induction k generalizing n with
  | zero => rfl
  | succ k ih => simp [putN, ih]
theorem pow256 (k : Nat) : 256 ^ (k + 1) = 256 * 256 ^ k := by rw [Nat.pow_succ, Nat.mul_comm]
/-- the first byte ahead of the others -/
theorem putN_front (n k : Nat) : putN n (k + 1) = UInt8.ofNat (n / 256 ^ k) :: putN n k := by
  induction k generalizing n with
  | zero => simp [putN]
  | succ k ih =>
    rw [putN, ih (n / 256)]
    rw [show putN n (k + 1) = putN (n / 256) k ++ [UInt8.ofNat n] from rfl]
    rw [Nat.div_div_eq_div_mul, ← pow256]
    rfl
theorem getN_append (l m : List UInt8) : getN (l ++ m) = getN l * 256 ^ m.length + getN m := by
  unfold getN
  rw [List.foldl_append]
  have gen : ∀ (m : List UInt8) (a : Nat), m.foldl (fun a b => a * 256 + b.toNat) a = a * 256 ^ m.length + m.foldl (fun a b => a * 256 + b.toNat) 0 := by
    intro m
    induction m with
    | nil => intro a; simp
    | cons x m ih =>
      intro a
      simp only [List.foldl_cons, List.length_cons]
      rw [ih (a * 256 + x.toNat), ih (0 * 256 + x.toNat), Nat.pow_succ, Nat.add_mul, Nat.zero_mul, Nat.zero_add, Nat.mul_assoc, Nat.mul_comm 256 (256 ^ m.length)]
      omega
  exact gen m _
theorem getN_snoc (l : List UInt8) (b : UInt8) : getN (l ++ [b]) = getN l * 256 + b.toNat := by
  rw [getN_append]; simp [getN]
theorem getN_lt (l : List UInt8) : getN l < 256 ^ l.length := by
  refine snoc_ind (p := fun l => getN l < 256 ^ l.length) (by simp [getN]) (fun l b ih => ?_) l
  · rw [getN_snoc, List.length_append, List.length_singleton, pow256]
    have := b.toNat_lt
    omega
theorem ofNat_toNat (n : Nat) : (UInt8.ofNat n).toNat = n % 256 := rfl
theorem getN_putN (n k : Nat) : getN (putN n k) = n % 256 ^ k := by
  induction k generalizing n with
  | zero => simp [putN, getN, Nat.mod_one]
  | succ k ih =>
    rw [putN, getN_snoc, ih, ofNat_toNat, pow256, Nat.mod_mul]
    omega
theorem putN_getN (l : List UInt8) : putN (getN l) l.length = l := by
  refine snoc_ind (p := fun l => putN (getN l) l.length = l) rfl (fun l b ih => ?_) l
  · rw [List.length_append, List.length_singleton, putN, getN_snoc]
    have hb := b.toNat_lt
    rw [show (getN l * 256 + b.toNat) / 256 = getN l by omega, ih]
    congr 1
    have : (UInt8.ofNat (getN l * 256 + b.toNat)) = b := by
      apply UInt8.toNat_inj.1
      rw [ofNat_toNat]; omega
    rw [this]
/-- noughts ahead change nothing -/
theorem getN_zeros (k : Nat) (l : List UInt8) : getN (List.replicate k 0 ++ l) = getN l := by
  rw [getN_append]
  have : getN (List.replicate k 0) = 0 := by
    induction k with
    | zero => rfl
    | succ k ih => rw [List.replicate_succ', getN_snoc, ih]; rfl
  rw [this]; omega
/-- modulo 2^64 the last eight bytes count alone -/
theorem getN_last (l : List UInt8) : getN l % 18446744073709551616 = getN (l.drop (l.length - 8)) := by
  have h := getN_append (l.take (l.length - 8)) (l.drop (l.length - 8))
  rw [List.take_append_drop] at h
  have hlt := getN_lt (l.drop (l.length - 8))
  have hd : (l.drop (l.length - 8)).length ≤ 8 := by simp; omega
  by_cases h8 : 8 ≤ l.length
  · have hd8 : (l.drop (l.length - 8)).length = 8 := by simp; omega
    rw [hd8] at h hlt
    have e : (256 : Nat) ^ 8 = 18446744073709551616 := by decide
    rw [e] at h hlt
    rw [h]; omega
  · have e0 : l.length - 8 = 0 := by omega
    rw [e0]; simp only [List.drop_zero]
    have h1 := getN_lt l
    have h2 : (256 : Nat) ^ l.length ≤ 256 ^ 8 := Nat.pow_le_pow_right (by decide) (by omega)
    have e : (256 : Nat) ^ 8 = 18446744073709551616 := by decide
    rw [e] at h2
    omega
theorem getN_take_succ (l : List UInt8) (k : Nat) (h : k < l.length) : getN (l.take (k + 1)) = getN (l.take k) * 256 + l[k].toNat := by
  rw [List.take_succ_eq_append_getElem h, getN_snoc]
theorem wrap_u64_nat (n : Nat) : IntKind.u64.wrap (n : Int) = ((n % 18446744073709551616 : Nat) : Int) := by rw [IntKind.wrap_u64]; omega
/-- one round of the program's Get -/
theorem get_step (g b : Nat) (hb : b < 256) (hg : g * 256 + b < 18446744073709551616) :
    bits .or .u64 (IntKind.u64.wrap ((g : Int) * 256)) (IntKind.u64.wrap (b : Int)) = ((g * 256 + b : Nat) : Int) := by
  have h1 : g * 256 < 18446744073709551616 := Nat.lt_of_le_of_lt (Nat.le_add_right _ _) hg
  have h2 : b < 18446744073709551616 := Nat.lt_of_le_of_lt (Nat.le_add_left _ _) hg
  have e3 := u64_or_nat (g * 256) b h1 h2
  have e4 := nat_join 8 (g * 256) b (by omega) (by omega)
  have e1 : IntKind.u64.wrap ((g : Int) * 256) = ((g * 256 : Nat) : Int) := by
    have := wrap_u64_nat (g * 256)
    rw [Nat.mod_eq_of_lt h1] at this
    rw [← this]; rfl
  have e2 : IntKind.u64.wrap (b : Int) = (b : Int) := by rw [wrap_u64_nat, Nat.mod_eq_of_lt h2]
  rw [e1, e2, e3, e4]
/-- one round of the document's Get -/
theorem refget_step (g b : Nat) :
    IntKind.u64.wrap (IntKind.u64.wrap (256 * ((g % 18446744073709551616 : Nat) : Int)) + IntKind.u64.wrap (b : Int)) = (((g * 256 + b) % 18446744073709551616 : Nat) : Int) := by
  simp only [IntKind.wrap_u64]; omega
theorem put_spot {n N k : Nat} (h : k < N) : (cells8 (List.replicate (N - k) 0 ++ putN n k))[N - 1 - k]? = some (.int .u8 0) := by
  rw [cells8_at _ _ (by simp [putN_length]; omega)]
  rw [List.getElem_append_left (by simp; omega)]
  simp
/-- one round of the program's Put -/
theorem put_row {n N k : Nat} (h : k < N) : (cells8 (List.replicate (N - k) 0 ++ putN n k)).set (N - 1 - k) (.int .u8 ((n : Int) / 2 ^ (8 * k) % 256)) = cells8 (List.replicate (N - (k + 1)) 0 ++ putN n (k + 1)) := by
  have e : List.replicate (N - k) (0 : UInt8) = List.replicate (N - (k + 1)) 0 ++ [0] := by
    rw [show N - k = N - (k + 1) + 1 by omega, List.replicate_succ']
  rw [e, putN_front, cells8_append, cells8_append, cells8_append]
  have hl : (cells8 (List.replicate (N - (k + 1)) 0)).length = N - 1 - k := by rw [cells8_length]; simp; omega
  rw [List.append_assoc, List.set_append_right _ _ (by omega), hl, Nat.sub_self]
  have h2 : ((n : Int) / 2 ^ (8 * k) % 256) = (((UInt8.ofNat (n / 256 ^ k)).toNat : Nat) : Int) := by
    rw [ofNat_toNat, show (256 : Nat) = 2 ^ 8 from rfl, ← Nat.pow_mul]
    simp
  rw [h2]
  simp [cells8]
theorem tdiv256 (q : Nat) (h : q < 18446744073709551616) : IntKind.u64.wrap ((q : Int) / 256) = ((q / 256 : Nat) : Int) := by
  have e : ((q : Int) / 256) = ((q / 256 : Nat) : Int) := rfl
  rw [e, wrap_u64_nat, Nat.mod_eq_of_lt (Nat.lt_of_le_of_lt (Nat.div_le_self _ _) h)]
theorem tmod256 (q : Nat) : ((q : Int) % 256) = ((UInt8.ofNat q).toNat : Int) := rfl
/-- the k-th byte of a number -/
theorem putN_at (n N k : Nat) (h : k < N) : (putN n N)[k]'(by rw [putN_length]; exact h) = UInt8.ofNat (n / 256 ^ (N - 1 - k)) := by
  induction N generalizing k with
  | zero => omega
  | succ N ih =>
    simp only [putN_front]
    cases k with
    | zero => simp
    | succ k => simp only [List.getElem_cons_succ]; rw [ih k (by omega)]; congr 3; omega
theorem putN_take (n N k : Nat) (h : k < N) : cells8 ((putN n N).take k) ++ [.int .u8 (((n / 256 ^ (N - 1 - k) : Nat) : Int) % 256)] = cells8 ((putN n N).take (k + 1)) := by
  rw [List.take_succ_eq_append_getElem (by rw [putN_length]; exact h), putN_at n N k h, cells8_append, tmod256]
  rfl
theorem getN_lt8 (l : List UInt8) (h : l.length ≤ 8) : getN l < 18446744073709551616 := by
  have h1 := getN_lt l
  have h2 : (256 : Nat) ^ l.length ≤ 256 ^ 8 := Nat.pow_le_pow_right (by decide) h
  have e : (256 : Nat) ^ 8 = 18446744073709551616 := by decide
  rw [e] at h2
  omega
end Go.Proofs.YtckmobpjdpjocaaDoor

namespace Go.Proofs.YtckmobpjdpjocaaDoor
open Go.RowKit

/-- The values are slices that read as the lists fs; those that have anything lie below B, and not in block g. -/
structure Fs (w : World) (B : Nat) (g : Option Nat) (vals : List Value) (fs : List (List UInt8)) : Prop where
  len : vals.length = fs.length
  at' : ∀ j (h1 : j < vals.length) (h2 : j < fs.length), ∃ A n c, vals[j] = .slice A n c ∧ Bs w B A n c fs[j] ∧ ∀ ad, A = some ad → 0 < n → g ≠ some ad.block
section
variable {w w' : World} {B B' : Nat} {g : Option Nat} {vals : List Value} {fs : List (List UInt8)}
theorem Fs.zero (w : World) (B : Nat) (g : Option Nat) : Fs w B g [] [] := ⟨rfl, fun j h _ => absurd h (by simp)⟩
theorem Fs.below (h : Fs w B g vals fs) (hb : Below B w w') : Fs w' B g vals fs :=
  ⟨h.len, fun j h1 h2 => by
    obtain ⟨A, n, c, e, hbs, hg⟩ := h.at' j h1 h2
    exact ⟨A, n, c, e, hbs.below hb, hg⟩⟩
theorem Fs.more (h : Fs w B g vals fs) (hB : B ≤ B') : Fs w B' g vals fs :=
  ⟨h.len, fun j h1 h2 => by
    obtain ⟨A, n, c, e, hbs, hg⟩ := h.at' j h1 h2
    exact ⟨A, n, c, e, hbs.more hB, hg⟩⟩
theorem Bs.grown {g : Option Nat} {A : Option Addr} {n c : Nat} {l : List UInt8} (h : Bs w B A n c l) (hk : ∀ k, g ≠ some k → k < B → w'.heap[k]? = w.heap[k]?) (hg : ∀ ad, A = some ad → 0 < n → g ≠ some ad.block) : Bs w' B A n c l :=
  ⟨h.len, h.cap, h.max, h.nil, fun h0 => by
    obtain ⟨b, o, hA, hb, hc⟩ := h.cells h0
    refine ⟨b, o, hA, hb, fun j hj => ?_⟩
    rw [← hc j hj]
    exact World.cell?_of_block (w := w) (hk b (hg _ hA h0) hb)⟩
theorem Fs.grown (h : Fs w B g vals fs) (hk : ∀ k, g ≠ some k → k < B → w'.heap[k]? = w.heap[k]?) : Fs w' B g vals fs :=
  ⟨h.len, fun j h1 h2 => by
    obtain ⟨A, n, c, e, hbs, hg⟩ := h.at' j h1 h2
    exact ⟨A, n, c, e, hbs.grown hk hg, hg⟩⟩
theorem Fs.move {g' : Option Nat} (h : Fs w B g vals fs) (hg' : g' = g ∨ ∃ k, g' = some k ∧ B ≤ k) : Fs w B g' vals fs :=
  ⟨h.len, fun j h1 h2 => by
    obtain ⟨A, n, c, e, hbs, hg⟩ := h.at' j h1 h2
    refine ⟨A, n, c, e, hbs, fun ad hA h0 => ?_⟩
    rcases hg' with rfl | ⟨k, rfl, hk⟩
    · exact hg ad hA h0
    · obtain ⟨b, o, hA', hb, _⟩ := hbs.cells h0
      rw [hA] at hA'
      obtain rfl := Option.some.inj hA'
      intro e; have := Option.some.inj e; simp at this; omega⟩
theorem Fs.snoc (h : Fs w B g vals fs) {A : Option Addr} {n c : Nat} {l : List UInt8} (hb : Bs w B A n c l) (hg : ∀ ad, A = some ad → 0 < n → g ≠ some ad.block) :
    Fs w B g (vals ++ [.slice A n c]) (fs ++ [l]) := by
  refine ⟨by simp [h.len], fun j h1 h2 => ?_⟩
  by_cases hj : j < vals.length
  · rw [List.getElem_append_left hj, List.getElem_append_left (by rw [← h.len]; exact hj)]
    exact h.at' j hj _
  · have hjv : j = vals.length := by simp at h1; omega
    have hjf : j = fs.length := by rw [← h.len]; exact hjv
    refine ⟨A, n, c, ?_, ?_, hg⟩
    · rw [List.getElem_append_right (by omega)]; simp [hjv]
    · rw [List.getElem_append_right (by omega)]; simpa [hjf] using hb
theorem Fs.lists {base : Nat} {e : TypeId} {v : Value} {k : Nat} (h : Fs w B g vals fs) (hown : w.ownsRow base e 1 v k vals) (hB : w.heap.size ≤ B) : ∃ A c, v = .slice A k c ∧ Ls w B A k c fs := by
  have hl : vals.length = k := by have := hown.1; omega
  rcases hown.2 with ⟨rfl, rfl⟩ | ⟨g', cap, cur, rfl, hg, hh, hn, hm, hs, ht⟩
  · obtain rfl : vals = [] := List.eq_nil_of_length_eq_zero hl
    obtain rfl : fs = [] := List.eq_nil_of_length_eq_zero (by rw [← h.len]; rfl)
    exact ⟨none, 0, rfl, Ls.zero w _⟩
  · refine ⟨some ⟨g', 0, none⟩, cap, rfl, by rw [← h.len]; exact hl, hn, hm, (fun h => by cases h), fun h0 => ⟨g', 0, rfl, ?_, fun j hj => ?_⟩⟩
    · have := (Array.getElem?_eq_some_iff.1 hh).1; omega
    · have hjv : j < vals.length := by rw [h.len]; exact hj
      obtain ⟨A, n, c, e', hbs, _⟩ := h.at' j hjv hj
      refine ⟨A, n, c, ?_, hbs⟩
      have := hown.cells (g := g') rfl j (vals[j]) (List.getElem?_eq_getElem hjv)
      rw [Addr.add_lit, e'] at this
      exact this
/-- one slice, laid in a block of its own, is a list of one -/
theorem Ls.one {A : Option Addr} {n c : Nat} {l : List UInt8} (t : TypeId) (h : Bs w w.heap.size A n c l) : Ls (w.alloc (.cells #[.slice A n c] t)) (w.heap.size + 1) (some ⟨w.heap.size, 0, none⟩) 1 1 [l] := by
  refine ⟨rfl, Nat.le_refl _, by simp [maxLen], (fun h => by cases h), fun _ => ⟨w.heap.size, 0, rfl, by omega, fun j hj => ?_⟩⟩
  obtain rfl : j = 0 := by simp at hj; omega
  refine ⟨A, n, c, ?_, (h.alloc (Nat.le_refl _) _).more (by omega)⟩
  rw [World.cell?_alloc_at _ _ _ _ rfl]; rfl
theorem Ls.two {A A2 : Option Addr} {n c n2 c2 : Nat} {l l2 : List UInt8} (t : TypeId) (h : Bs w w.heap.size A n c l) (h2 : Bs w w.heap.size A2 n2 c2 l2) : Ls (w.alloc (.cells #[.slice A n c, .slice A2 n2 c2] t)) (w.heap.size + 1) (some ⟨w.heap.size, 0, none⟩) 2 2 [l, l2] := by
  refine ⟨rfl, Nat.le_refl _, by simp [maxLen], (fun h => by cases h), fun _ => ⟨w.heap.size, 0, rfl, by omega, fun j hj => ?_⟩⟩
  rcases (by simp at hj; omega : j = 0 ∨ j = 1) with rfl | rfl
  · refine ⟨A, n, c, ?_, (h.alloc (Nat.le_refl _) _).more (by omega)⟩
    rw [World.cell?_alloc_at _ _ _ _ rfl]; rfl
  · refine ⟨A2, n2, c2, ?_, (h2.alloc (Nat.le_refl _) _).more (by omega)⟩
    rw [World.cell?_alloc_at _ _ _ _ rfl]; rfl
end

/-- where the k-th field begins -/
def off (ws : List Int) (k : Nat) : Nat := ((ws.take k).map Int.toNat).sum
/-- the fields, one behind the other, as far as there is anything -/
def fieldsL : List UInt8 → List Int → List (List UInt8)
  | _, [] => []
  | b, w :: ws => b.take w.toNat :: fieldsL (b.drop w.toNat) ws
/-- why there are none -/
def cutE (b : List UInt8) (ws : List Int) : Nat := if b.length < off ws ws.length then 3 else if off ws ws.length < b.length then 4 else 0
def cutF (b : List UInt8) (ws : List Int) : List (List UInt8) := if cutE b ws = 0 then fieldsL b ws else []

theorem off_zero (ws : List Int) : off ws 0 = 0 := rfl
theorem off_succ (ws : List Int) (k : Nat) (h : k < ws.length) : off ws (k + 1) = off ws k + ws[k].toNat := by
  unfold off
  rw [List.take_succ_eq_append_getElem h, List.map_append, List.sum_append]; rfl
theorem off_mono (ws : List Int) (j k : Nat) (h : j ≤ k) : off ws j ≤ off ws k := by
  unfold off
  have e : ws.take j = (ws.take k).take j := by rw [List.take_take]; congr 1; omega
  rw [e]
  conv => rhs; rw [← List.take_append_drop j (ws.take k), List.map_append, List.sum_append]
  omega
theorem cutE_short {b : List UInt8} {ws : List Int} {k N rn : Nat} (hk : k + 1 ≤ ws.length) (h1 : off ws (k + 1) = off ws k + N) (h2 : off ws k + rn = b.length) (h3 : rn < N) : cutE b ws = 3 := by
  have := off_mono ws (k + 1) ws.length hk
  unfold cutE
  rw [if_pos (by omega)]
theorem cutE_left {b : List UInt8} {ws : List Int} {rn : Nat} (h2 : off ws ws.length + rn = b.length) (h3 : 0 < rn) : cutE b ws = 4 := by
  unfold cutE
  rw [if_neg (by omega), if_pos (by omega)]
theorem cutE_ok {b : List UInt8} {ws : List Int} (h2 : off ws ws.length = b.length) : cutE b ws = 0 := by
  unfold cutE
  rw [if_neg (by omega), if_neg (by omega)]
theorem cutF_bad {b : List UInt8} {ws : List Int} (h : cutE b ws ≠ 0) : cutF b ws = [] := by unfold cutF; rw [if_neg h]
theorem cutF_ok {b : List UInt8} {ws : List Int} (h : cutE b ws = 0) : cutF b ws = fieldsL b ws := by unfold cutF; rw [if_pos h]
theorem fieldsL_length (b : List UInt8) (ws : List Int) : (fieldsL b ws).length = ws.length := by
  induction ws generalizing b with
  | nil => rfl
  | cons w ws ih => simp [fieldsL, ih]
theorem fieldsL_snoc (b : List UInt8) (ws : List Int) (z : Int) : fieldsL b (ws ++ [z]) = fieldsL b ws ++ [(b.drop (off ws ws.length)).take z.toNat] := by
  induction ws generalizing b with
  | nil => simp [fieldsL, off]
  | cons w ws ih =>
    simp only [List.cons_append, fieldsL, ih]
    simp [off, List.drop_drop]
theorem fieldsL_take (b : List UInt8) (ws : List Int) (k : Nat) (h : k < ws.length) : fieldsL b (ws.take (k + 1)) = fieldsL b (ws.take k) ++ [(b.drop (off ws k)).take ws[k].toNat] := by
  rw [List.take_succ_eq_append_getElem h, fieldsL_snoc]
  have : off (ws.take k) (ws.take k).length = off ws k := by
    unfold off; rw [List.take_of_length_le (Nat.le_refl _)]
  rw [this]
theorem fieldsL_flatten (b : List UInt8) (ws : List Int) (h : off ws ws.length ≤ b.length) : (fieldsL b ws).flatten = b.take (off ws ws.length) := by
  induction ws generalizing b with
  | nil => simp [fieldsL, off]
  | cons w ws ih =>
    have e : off (w :: ws) (w :: ws).length = w.toNat + off ws ws.length := by simp [off]
    rw [e] at h ⊢
    rw [fieldsL, List.flatten_cons, ih _ (by simp; omega), List.take_add]
end Go.Proofs.YtckmobpjdpjocaaDoor

namespace Go.Proofs.YtckmobpjdpjocaaDoor
open Go.RowKit

/-- what stays true of the world while calls make memory: nothing that was there has turned -/
theorem keep_call {w0 W W' : World} {g : Nat} {cs : List Value} (hS : Below w0.heap.size w0 W ∧ W.rangeAt g 0 cs) (hg : g < w0.heap.size) (hb : Below W.heap.size W W') : Below w0.heap.size w0 W' ∧ W'.rangeAt g 0 cs :=
  ⟨hS.1.trans (hb.mono hS.1.size), range_below hS.2 hb (Nat.lt_of_lt_of_le hg hS.1.size)⟩
theorem keep_alloc {w0 W : World} {g : Nat} {cs : List Value} (hS : Below w0.heap.size w0 W ∧ W.rangeAt g 0 cs) (o : Obj) : Below w0.heap.size w0 (W.alloc o) ∧ (W.alloc o).rangeAt g 0 cs :=
  ⟨hS.1.alloc hS.1.size o, World.rangeAt_alloc hS.2 o⟩
theorem keep_drew {w0 W : World} {g : Nat} {cs : List Value} (hS : Below w0.heap.size w0 W ∧ W.rangeAt g 0 cs) : Below w0.heap.size w0 W.drew ∧ W.drew.rangeAt g 0 cs := ⟨hS.1.drew, hS.2⟩

theorem ls_two (W : World) (t : TypeId) {A B : Option Addr} {n c m d : Nat} {la lb : List UInt8} (ha : Bs W W.heap.size A n c la) (hb : Bs W W.heap.size B m d lb) :
    Ls (W.alloc (.cells #[.slice A n c, .slice B m d] t)) (W.alloc (.cells #[.slice A n c, .slice B m d] t)).heap.size (some ⟨W.heap.size, 0, none⟩) 2 2 [la, lb] := (Ls.two t ha hb).more (by simp)
theorem ls_one (W : World) (t : TypeId) {A : Option Addr} {n c : Nat} {la : List UInt8} (ha : Bs W W.heap.size A n c la) :
    Ls (W.alloc (.cells #[.slice A n c] t)) (W.alloc (.cells #[.slice A n c] t)).heap.size (some ⟨W.heap.size, 0, none⟩) 1 1 [la] := (Ls.one t ha).more (by simp)
/-- x[i:] of bytes, in a region -/
theorem yieldsIf_cut_l {P : Program} {ops : Array Oper} {S : World → Prop} {op : Oper} {a : Act} {t e : TypeId} {z : Value} {bytes : Nat} (hw : Region.wanted op (yielded ops a.tmps) = true) (E : El P t e z bytes) (x lo : Operand) (ho : op.op = .slice t x (some lo) none none)
    {A : Option Addr} {n c : Nat} (hx : a.eval x = .slice A n c) {k : IntKind} {I : Int} (hlo : a.eval lo = .int k I) (i : Nat) (hI : I = i) (hi : i ≤ n) {A' : Option Addr} {n' c' : Nat} (hA' : (if c = i then A else A.map (·.add i)) = A') (hn' : n - i = n') (hc' : c - i = c') : YieldsIf P ops S op (.slice A' n' c') a := by
  subst hI hA' hn' hc'
  refine .inl ⟨hw, fun w _ => ?_⟩
  have hrun := run_slice_l (P := P) (w := w) t A n c E.ty' k (i : Int) (by omega) (by omega)
  rw [E.sizeOf] at hrun
  unfold execOp
  simp [ho, hx, hlo, run_sliceAt_slice (P := P) (w := w) t _ _ _ _ E.ty', hrun, Result.andThen, sliced]
/-- two arrays of bytes, held against each other, in a region -/
theorem yieldsIf_eql {P : Program} {ops : Array Oper} {S : World → Prop} {op : Oper} {a : Act} {t e t' : TypeId} {n : Nat} (hw : Region.wanted op (yielded ops a.tmps) = true) (E : EqB P t e n) (hG : P.eqGuardType P.depth t = false) (x y : Operand) (ho : op.op = .binOp .eql t x y t') (l m : List UInt8)
    (hx : a.eval x = .agg (cells8 l).toArray) (hy : a.eval y = .agg (cells8 m).toArray) (hl : l.length = n) (hm : m.length = n) {b : Bool} (hb : (l == m) = b) : YieldsIf P ops S op (.bool b) a :=
  .inl ⟨hw, fun w _ => by
    unfold execOp
    simp only [ho, hx, hy, Sem.run_bind, run_eqGuard_agg (w := w) _ _ _ _ _ _ hG, Result.andThen_ok, run_eql_bytes E w l m hl hm, hb, Sem.run_pure]⟩
theorem yieldsIf_neq {P : Program} {ops : Array Oper} {S : World → Prop} {op : Oper} {a : Act} {t e t' : TypeId} {n : Nat} (hw : Region.wanted op (yielded ops a.tmps) = true) (E : EqB P t e n) (hG : P.eqGuardType P.depth t = false) (x y : Operand) (ho : op.op = .binOp .neq t x y t') (l m : List UInt8)
    (hx : a.eval x = .agg (cells8 l).toArray) (hy : a.eval y = .agg (cells8 m).toArray) (hl : l.length = n) (hm : m.length = n) {b : Bool} (hb : (!(l == m)) = b) : YieldsIf P ops S op (.bool b) a :=
  .inl ⟨hw, fun w _ => by
    unfold execOp
    simp only [ho, hx, hy, Sem.run_bind, run_eqGuard_agg (w := w) _ _ _ _ _ _ hG, Result.andThen_ok, run_neq_bytes E w l m hl hm, hb, Sem.run_pure]⟩
end Go.Proofs.YtckmobpjdpjocaaDoor

namespace Go.Proofs.YtckmobpjdpjocaaDoor
open Go.RowKit

/-- x[i:k] -/
theorem yields_cut_lh {P : Program} {ops : Array Oper} {op : Oper} {a : Act} {t e : TypeId} {z : Value} {bytes : Nat} (hw : Region.wanted op (yielded ops a.tmps) = true) (E : El P t e z bytes) (x lo hi : Operand) (ho : op.op = .slice t x (some lo) (some hi) none)
    {A : Option Addr} {n c : Nat} (hx : a.eval x = .slice A n c) {k1 k2 : IntKind} {I J : Int} (hlo : a.eval lo = .int k1 I) (hhi : a.eval hi = .int k2 J) (i k : Nat) (hI : I = i) (hJ : J = k) (hik : i ≤ k) (hk : k ≤ c) {A' : Option Addr} {n' c' : Nat} (hA' : (if c = i then A else A.map (·.add i)) = A') (hn' : k - i = n') (hc' : c - i = c') : Yields P ops op (.slice A' n' c') a := by
  subst hI hJ hA' hn' hc'
  refine .inl ⟨hw, fun w => ?_⟩
  have hrun := run_slice_lh (P := P) (w := w) t A n c E.ty' k1 k2 (i : Int) (k : Int) (by omega) (by omega) (by omega)
  rw [E.sizeOf] at hrun
  unfold execOp
  simp [ho, hx, hlo, hhi, run_sliceAt_slice (P := P) (w := w) t _ _ _ _ E.ty', hrun, Result.andThen, sliced]
end Go.Proofs.YtckmobpjdpjocaaDoor

namespace Go.Proofs.YtckmobpjdpjocaaDoor
open Go.RowKit

section
variable {P : Program} {w : World} {ops : Array Oper} {rest : List Oper} {o : Oper} {a : Act} {Q : Exit → Act → World → Prop} {t : TypeId}
theorem wpList_build1 (hg : o.guard = none) (i : Nat) (x : Operand) (hop : o.op = .build t #[(i, x)]) {v : Value} (hx : a.eval x = v) {cs : List Value} (hb : P.built t [(i, v)] = some cs.toArray)
    (h : wpList P ops Q rest (a.put o.dst (.agg cs.toArray)) w) : wpList P ops Q (o :: rest) a w := by
  refine wpList_plain hg fun K hK => ?_
  unfold Oper.wp execOp
  have hr := run_build (P := P) w t #[(i, v)] cs.toArray (by simpa using hb)
  simp only [hop, Sem.run_bind, List.map_toArray, List.map_cons, List.map_nil, hx, hr, Result.andThen_ok]
  exact hK _ _ h
/-- a whole block, read, guarded -/
theorem wpList_loadAll_g {d : TypeDesc} {n : Nat} (E : Rw P t d n) (hg : Region.wanted o (yielded ops a.tmps) = true) (x : Operand) (hop : o.op = .load t x) {g : Nat} {t' : TypeId} {cs : List Value} (hx : a.eval x = .pointer (some ⟨g, 0, none⟩)) (hb : Blk w g t' cs) (hn : cs.length = n)
    (h : wpList P ops Q rest (a.put o.dst (.agg cs.toArray)) w) : wpList P ops Q (o :: rest) a w := by
  refine wpList_step fun K hK => ?_
  rw [if_pos hg]
  have hr := run_load_rw E hb (off := 0) (by omega)
  rw [List.drop_zero, List.take_of_length_le (by omega)] at hr
  unfold Oper.wp
  simp only [execOp, hop, hx, Sem.run_bind, hr, Result.andThen_ok, Sem.run_pure]
  exact hK _ _ h
/-- a new variable of many cells, in a region whose order is open -/
theorem step_alloc {K : Act → World → Prop} {C : Prop} {zs : List Value} (E : Ty P t zs) (hgd : o.guard = none) (hop : o.op = .alloc t)
    (h : ∀ w', Blk w' w.heap.size t zs → Below w.heap.size w w' → K (a.put o.dst (.pointer (some ⟨w.heap.size, 0, none⟩))) w') :
    if Region.wanted o (yielded ops a.tmps) = true then Oper.wp P o a w K Q else C := by
  have hw : Region.wanted o (yielded ops a.tmps) = true := by simp [Region.wanted, hgd]
  rw [if_pos hw]
  unfold Oper.wp
  simp only [execOp, hop, Sem.run_bind, run_alloc_ty E, Result.andThen_ok, Sem.run_pure]
  exact h _ (Blk.new w t zs) ((Below.refl _ _).alloc (Nat.le_refl _) _)
/-- many cells, read, as what they are known to be -/
theorem wpList_loadv {d : TypeDesc} {n : Nat} (E : Rw P t d n) (hg : o.guard = none) (x : Operand) (hop : o.op = .load t x) {g off : Nat} {t' : TypeId} {cs vs : List Value} (hx : a.eval x = .pointer (some ⟨g, off, none⟩)) (hb : Blk w g t' cs) (hfit : off + n ≤ cs.length) (hv : (cs.drop off).take n = vs)
    (h : wpList P ops Q rest (a.put o.dst (.agg vs.toArray)) w) : wpList P ops Q (o :: rest) a w := by
  subst hv
  exact wpList_load E hg x hop hx hb hfit h
end
end Go.Proofs.YtckmobpjdpjocaaDoor

namespace Go.Proofs.YtckmobpjdpjocaaDoor
theorem el8 : El Tryd.prog 26 5 (.int .u8 0) 1 := ⟨Tryd.underlying26, by kernel_rfl, rfl⟩
theorem elS : El Tryd.prog 94 26 (.slice none 0 0) 24 := ⟨Tryd.underlying94, by kernel_rfl, rfl⟩
theorem elI : El Tryd.prog 34 3 (.int .i64 0) 8 := ⟨Tryd.underlying34, by kernel_rfl, rfl⟩
end Go.Proofs.YtckmobpjdpjocaaDoor

namespace Go.Proofs.YtckmobpjdpjocaaDoor
open Go.RowKit

set_option maxHeartbeats 400000 in
theorem put_any (n : Nat) (wide : Int) (w : World) (hn : n < 18446744073709551616) :
    Calls Tryd.prog 31 #[.int .u64 n, .int .i64 wide] w fun e w' => ∃ v, e = .returned v ∧ w'.ownsRow w.heap.size 5 1 v (min (max wide 0) 8).toNat (cells8 (putN n (min (max wide 0) 8).toNat)) ∧ Below w.heap.size w w' := by
  obtain ⟨N, hN⟩ : ∃ N : Nat, N = (min (max wide 0) 8).toNat := ⟨_, rfl⟩
  rw [← hN]
  have hN8 : N ≤ 8 := by omega
  have HN := Lib.hid hn
  have HNN := Lib.hid hN
  clear hn hN
  go_enter Tryd.func31, Tryd.ntmps31
  have hcase : wide < 0 ∨ (0 ≤ wide ∧ wide ≤ 8) ∨ 8 < wide := by omega
  rcases hcase with h | ⟨h0, h⟩ | h
  all_goals
    go_wp2_with (with_reducible refine wpList_mk (o := ⟨some 10, _, _, _, _, _⟩) el8 rfl _ _ rfl w.heap.size _ _ _ _ N rfl rfl (by have := HNN.out; omega) (by have := HNN.out; omega) (by omega) (by simp only [maxLen]; omega) (Nat.le_refl _) ?_)
    intro w1 hown hg
    have hb1 : Below w.heap.size w w1 := (Below.refl _ _).grown hg (Nat.le_refl _) (by simp)
    have H1 := Lib.hid hown
    clear hg hown
    go_wp2
    go_loopw [13] (fun i wr => ∃ k : Nat, k ≤ N ∧ i = .int .i64 k ∧ Hid (wr.ownsRow w.heap.size 5 1 (.slice (some ⟨w.heap.size, 0, none⟩) N N) N (cells8 (List.replicate (N - k) 0 ++ putN n k))) ∧ Below w.heap.size w wr) (fun i _ => N - (intOf i).toNat)
    case atStart => exact ⟨0, Nat.zero_le _, rfl, by simpa [cells8, putN] using H1, hb1⟩
    case round =>
      obtain ⟨k, hk, rfl, H, hb⟩ := hrel
      by_cases hlt : k < N
      · have hc : wr.cell? ⟨w.heap.size, N - 1 - k, none⟩ = some (.int .u8 0) := by
          have h1 := H.out.cellAt (N - 1 - k) (by omega)
          rw [h1]
          exact put_spot (by omega)
        have hf := H.out.frozenAt (N - 1 - k)
        have HR := Lib.hid (put_row (n := n) hlt)
        go_wp2
        go_roundw
        case rel =>
          have hst := H.out.stored (N - 1 - k) (.int .u8 ((n : Int) / 2 ^ (8 * k) % 256))
          refine ⟨k + 1, by omega, by go_num, ?_, hb.setCell (Nat.le_refl _) _⟩
          show World.ownsRow _ _ _ _ _ _ _
          rw [← HR.out]
          exact hst.1
        case measure => simp [intOf]; omega
      · obtain rfl : k = N := by omega
        have H2 := H.out
        rw [Nat.sub_self] at H2
        simp only [List.replicate_zero, List.nil_append] at H2
        have H3 := Lib.hid H2
        clear H2
        go_wp2
        go_ret
        exact ⟨_, rfl, H3.out, hb⟩

end Go.Proofs.YtckmobpjdpjocaaDoor

namespace Go.Proofs.YtckmobpjdpjocaaDoor
open Go.RowKit

def padL (xs : List UInt8) (wide : Int) : List UInt8 := xs ++ List.replicate (wide.toNat - xs.length) 0
theorem padL_length (xs : List UInt8) (wide : Int) : (padL xs wide).length = max xs.length wide.toNat := by simp [padL]; omega

set_option maxHeartbeats 400000 in
theorem pad_any (A : Option Addr) (n c : Nat) (wide : Int) (xs : List UInt8) (w : World) (ha : Bs w w.heap.size A n c xs) (hn : n ≤ 4294967296) (hw : wide ≤ 4294967296) :
    Calls Tryd.prog 42 #[.slice A n c, .int .i64 wide] w fun e w' => ∃ v, e = .returned v ∧ w'.ownsRow w.heap.size 5 1 v (padL xs wide).length (cells8 (padL xs wide)) ∧ Below w.heap.size w w' := by
  obtain ⟨N, hN⟩ : ∃ N : Nat, N = max n wide.toNat := ⟨_, rfl⟩
  have HNN := Lib.hid hN
  have HL := Lib.hid ha.len
  have hN1 : N ≤ 4294967296 := by omega
  clear hN
  go_enter Tryd.func42, Tryd.ntmps42
  rcases (by omega : (n : Int) < wide ∨ wide ≤ (n : Int)) with h | h
  all_goals
    go_wp2_with (with_reducible refine wpList_mk (o := ⟨some 10, _, _, _, _, _⟩) el8 rfl _ _ rfl w.heap.size _ _ _ _ N rfl rfl (by have := HNN.out; omega) (by have := HNN.out; omega) (by omega) (by simp only [maxLen]; omega) (Nat.le_refl _) ?_)
    intro w1 hown hg
    have hb1 : Below w.heap.size w w1 := (Below.refl _ _).grown hg (Nat.le_refl _) (by simp)
    have H1 := Lib.hid hown
    have ha1 := ha.below hb1
    clear hg hown
    go_wp2_with (with_reducible refine wpList_copyBs (o := ⟨some 13, _, _, _, _, _⟩) el8 rfl _ _ rfl w.heap.size _ _ _ rfl H1.out rfl ha1 ?_)
    intro w2 H2 hb2 _
    have H3 : Hid (w2.ownsRow w.heap.size 5 1 (.slice (some ⟨w.heap.size, 0, none⟩) N N) (padL xs wide).length (cells8 (padL xs wide))) := by
      have h2 := H2.out
      have e1 : (padL xs wide).length = N := by rw [padL_length, HL.out, HNN.out]
      have e2 : cells8 (xs.take N) ++ List.replicate (N - n) (Value.int .u8 0) = cells8 (padL xs wide) := by
        rw [List.take_of_length_le (by rw [HL.out, HNN.out]; omega), padL, cells8_append, HL.out]
        simp [cells8]
        have := HNN.out
        omega
      rw [e2] at h2
      rw [e1]
      exact h2
    clear H1 H2
    go_wp2
    go_ret
    exact ⟨_, rfl, H3.out, hb1.trans hb2⟩

end Go.Proofs.YtckmobpjdpjocaaDoor

namespace Go.Proofs.YtckmobpjdpjocaaDoor
open Go.RowKit

set_option maxHeartbeats 400000 in
theorem get_any (A : Option Addr) (n c : Nat) (xs : List UInt8) (w : World) (L : Nat) (ha : Bs w L A n c xs) :
    Calls Tryd.prog 34 #[.slice A n c] w fun e w' => e = .returned (.int .u64 (getN (xs.drop (n - 8)))) ∧ w = w' := by
  have hn := ha.le
  go_enter Tryd.func34, Tryd.ntmps34
  rcases (by omega : 8 ≤ n ∨ n < 8) with h8 | h8
  all_goals
    go_wp2_with (with_reducible refine wpList_cut_l (o := ⟨some 11, _, _, _, _, _⟩) el8 rfl _ _ rfl rfl ha _ _ (n - 8) rfl (by omega) (by omega) ?_)
    intro A' m d hb
    have hlen : (xs.drop (n - 8)).length ≤ 8 := by have := ha.len; simp; omega
    generalize hys : xs.drop (n - 8) = ys at *
    have HYS := Lib.hid hys
    clear hys
    have hm := hb.le
    have HML := Lib.hid hb.len
    go_wp2
    go_loop [3, 13] (fun s i => ∃ k : Nat, k ≤ m ∧ i = .int .i64 k ∧ s = .int .u64 (getN (ys.take k))) (fun _ i => m - (intOf i).toNat)
    case atStart => exact ⟨0, Nat.zero_le _, rfl, rfl⟩
    case round =>
      obtain ⟨k, hk, rfl, rfl⟩ := hrel
      by_cases hlt : k < m
      · obtain ⟨b, o, rfl, _, hc⟩ := hb.cell hlt
        have hky : k < ys.length := by rw [HML.out]; exact hlt
        have hs := getN_take_succ ys k hky
        have hl8 := getN_lt8 (ys.take (k + 1)) (by simp; omega)
        have HS := Lib.hid (get_step (getN (ys.take k)) (ys[k].toNat) (UInt8.toNat_lt _) (by omega))
        have HS2 := Lib.hid hs
        clear hs hl8
        go_wp2
        go_round
        case rel => exact ⟨k + 1, by omega, by go_num, by rw [HS.out, HS2.out]⟩
        case measure => simp [intOf]; omega
      · go_wp2
        go_ret
        exact ⟨ret_eq (by rw [List.take_of_length_le (by rw [HML.out]; omega), HYS.out]; rfl), rfl⟩

set_option maxHeartbeats 400000 in
theorem refget_any (A : Option Addr) (n c : Nat) (xs : List UInt8) (w : World) (L : Nat) (ha : Bs w L A n c xs) :
    Calls Tryd.prog 35 #[.slice A n c] w fun e w' => e = .returned (.int .u64 ((getN xs % 18446744073709551616 : Nat) : Int)) ∧ w = w' := by
  have hn := ha.le
  have HL := Lib.hid ha.len
  go_enter Tryd.func35, Tryd.ntmps35
  go_wp2
  go_loop [3, 4] (fun s i => ∃ k : Nat, k ≤ n ∧ i = .int .i64 k ∧ s = .int .u64 ((getN (xs.take k) % 18446744073709551616 : Nat) : Int)) (fun _ i => n - (intOf i).toNat)
  case atStart => exact ⟨0, Nat.zero_le _, rfl, rfl⟩
  case round =>
    obtain ⟨k, hk, rfl, rfl⟩ := hrel
    by_cases hlt : k < n
    · obtain ⟨b, o, rfl, _, hc⟩ := ha.cell hlt
      have hky : k < xs.length := by rw [HL.out]; exact hlt
      have HS := Lib.hid (refget_step (getN (xs.take k)) (xs[k].toNat))
      have HS2 := Lib.hid (getN_take_succ xs k hky)
      generalize getN (xs.take k) % 18446744073709551616 = g at *
      go_wp2
      go_round
      case rel => exact ⟨k + 1, by omega, by go_num, by rw [HS.out, HS2.out]⟩
      case measure => simp [intOf]; omega
    · go_wp2
      go_ret
      exact ⟨ret_eq (by rw [List.take_of_length_le (by rw [HL.out]; omega)]; rfl), rfl⟩

set_option maxHeartbeats 1000000 in
theorem refput_any (n : Nat) (wide : Int) (w : World) (hn : n < 18446744073709551616) :
    Calls Tryd.prog 32 #[.int .u64 n, .int .i64 wide] w fun e w' => ∃ v, e = .returned v ∧ w'.ownsRow w.heap.size 5 1 v (min (max wide 0) 8).toNat (cells8 (putN n (min (max wide 0) 8).toNat)) ∧ Below w.heap.size w w' := by
  obtain ⟨N, hN⟩ : ∃ N : Nat, N = (min (max wide 0) 8).toNat := ⟨_, rfl⟩
  rw [← hN]
  have hN8 : N ≤ 8 := by omega
  have HN := Lib.hid hn
  have HNN := Lib.hid hN
  clear hn hN
  go_enter Tryd.func32, Tryd.ntmps32
  have hcase : wide < 1 ∨ (1 ≤ wide ∧ wide ≤ 8) ∨ 8 < wide := by omega
  rcases hcase with h | ⟨h0, h⟩ | h
  · obtain rfl : N = 0 := by have := HNN.out; omega
    go_wp2
    go_ret
    exact ⟨_, rfl, own_nil _ _ _, Below.refl _ _⟩
  all_goals
    go_wp2
    go_loopw [5, 6] (fun v i wr => ∃ k : Nat, k ≤ N ∧ i = .int .i64 ((N : Int) - 1 - k) ∧ Hid (wr.ownsRow w.heap.size 5 1 v k (cells8 ((putN n N).take k))) ∧ Below w.heap.size w wr) (fun _ i _ => (intOf i + 1).toNat)
    case atStart => exact ⟨0, Nat.zero_le _, by have := HNN.out; go_num, own_nil _ _ _, Below.refl _ _⟩
    case round =>
      obtain ⟨k, hk, rfl, H, hb⟩ := hrel
      by_cases hlt : k < N
      · go_wp2
        go_loop [7, 8] (fun x j => ∃ m q : Nat, m ≤ N - 1 - k ∧ j = .int .i64 m ∧ x = .int .u64 (q : Int) ∧ Hid (q = n / 256 ^ m)) (fun _ j => N - (intOf j).toNat)
        case atStart => exact ⟨0, n, Nat.zero_le _, rfl, rfl, by simp [Hid]⟩
        case round =>
          obtain ⟨m, q, hm, rfl, rfl, HQ⟩ := hrel
          by_cases hlt2 : m < N - 1 - k
          · have HD := Lib.hid (tdiv256 q (by rw [HQ.out]; exact Nat.lt_of_le_of_lt (Nat.div_le_self _ _) HN.out))
            go_wp2
            go_round
            case rel => exact ⟨m + 1, q / 256, by omega, by go_num, by rw [HD.out], by rw [HQ.out, Nat.div_div_eq_div_mul, ← Nat.pow_succ]; rfl⟩
            case measure => simp [intOf]; omega
          · go_wp2_with (at_builtin; refine wpList_app1 el8 rfl _ _ rfl w.heap.size _ k _ rfl H.out rfl rfl (by simp only [maxLen]; omega) (by omega) hb.size ?_)
            intro v' w' H' hb' _ _
            clear H
            go_wp2
            go_roundw
            case rel =>
              refine ⟨k + 1, by omega, by go_num, ?_, hb.trans hb'⟩
              show World.ownsRow _ _ _ _ _ _ _
              rw [← putN_take n N k hlt]
              obtain rfl : m = N - 1 - k := by omega
              have h1 := H'.out
              rw [HQ.out] at h1
              exact h1
            case measure => simp [intOf]; omega
      · obtain rfl : k = N := by omega
        have H2 := H.out
        rw [List.take_of_length_le (by rw [putN_length]; exact Nat.le_refl _)] at H2
        have H3 := Lib.hid H2
        clear H2 H
        go_wp2
        go_ret
        exact ⟨_, rfl, H3.out, hb⟩
end Go.Proofs.YtckmobpjdpjocaaDoor

namespace Go.Proofs.YtckmobpjdpjocaaDoor
open Go.RowKit
theorem wpList_grow0 {P : Program} {w : World} {ops : Array Oper} {rest : List Oper} {o : Oper} {a : Act} {Q : Exit → Act → World → Prop} {t e tn : TypeId} {z : Value} {bytes : Nat} {kn : IntKind}
    (E : El P t e z bytes) (htn : P.underlying tn = some (.int kn)) (hgd : o.guard = none) (s x : Operand)
    (ho : o.op = .call { callee := .builtin .append, args := #[s, x], argTypes := #[t, tn] }) (k : IntKind) (n : Nat)
    (hs : a.eval s = .slice none 0 0) (hx : a.eval x = .int k n) (h0 : 0 < n) (h63 : n ≤ maxLen) (h48 : n * bytes ≤ 281474976710656)
    (h : ∀ w' c, n ≤ c → Hid (w'.ownsRow w.heap.size e 1 (.slice (some ⟨w.heap.size, 0, none⟩) 0 c) 0 []) → Below w.heap.size w w' → wpList P ops Q rest (a.put o.dst (.slice (some ⟨w.heap.size, 0, none⟩) n c)) w') :
    wpList P ops Q (o :: rest) a w := by
  obtain ⟨i, hi, hz0, hz1, hz2⟩ := info_parts E.info
  have hr := Lib.run_append_nil_zeros (P := P) w t tn o.type e i z k kn E.ty htn hi hz0 n h0 (by omega) (by simp only [maxLen] at h63; omega) (by rw [hz2]; exact h48)
  refine Lib.wpList_append_run w hgd s x t tn ho _ _ hs hx _ _ hr (h _ _ (grownCap_ge w n 0 e) ?_ ((Below.refl _ _).drew.alloc (Nat.le_refl _) _))
  have hc := grownCap_le_maxLen w n 0 e h63
  have hge := grownCap_ge w n 0 e
  show World.ownsRow _ _ _ _ _ _ _
  refine ⟨rfl, .inr ⟨w.heap.size, _, _, rfl, Nat.le_refl _, heap_alloc_new w.drew _, Nat.zero_le _, hc, ?_, rfl⟩⟩
  simp only [Array.size_append, size_zeroCells, E.one]
  simp
  omega

set_option maxHeartbeats 400000 in
theorem grow0_any (n : Nat) (w : World) (hn : n ≤ 4294967296) :
    Calls Tryd.prog 58 #[.slice none 0 0, .int .i64 n] w fun e w' => ∃ v, e = .returned v ∧ w'.ownsRow w.heap.size 5 1 v 0 [] ∧ Below w.heap.size w w' := by
  go_enter Tryd.func58, Tryd.ntmps58
  rcases Nat.eq_zero_or_pos n with h0 | h0
  · subst h0
    go_wp2
    go_ret
    exact ⟨_, rfl, own_nil _ _ _, Below.refl _ _⟩
  · go_wp2_with (at_builtin; refine wpList_grow0 el8 Tryd.underlying3 rfl _ _ rfl .i64 n rfl rfl h0 (by simp only [maxLen]; omega) (by omega) ?_)
    intro w' c hc H hb
    go_wp2
    go_ret
    exact ⟨_, rfl, H.out, hb⟩

theorem take_flat (ls : List (List UInt8)) (k : Nat) (h : k < ls.length) : (ls.take (k + 1)).flatten = (ls.take k).flatten ++ ls[k] := by
  rw [List.take_succ_eq_append_getElem h, List.flatten_append]; simp
theorem take_flat_le (ls : List (List UInt8)) (k : Nat) : (ls.take k).flatten.length ≤ ls.flatten.length := by
  conv => rhs; rw [← List.take_append_drop k ls, List.flatten_append, List.length_append]
  omega
theorem take_flat_len (ls : List (List UInt8)) (k : Nat) (h : k < ls.length) : (ls.take (k + 1)).flatten.length = (ls.take k).flatten.length + ls[k].length := by
  rw [take_flat ls k h, List.length_append]

set_option maxHeartbeats 800000 in
theorem concat_any (A : Option Addr) (n c : Nat) (ls : List (List UInt8)) (w : World) (ha : Ls w w.heap.size A n c ls) (hn : ls.flatten.length ≤ 4294967296) :
    Calls Tryd.prog 44 #[.slice A n c] w fun e w' => ∃ v, e = .returned v ∧ w'.ownsRow w.heap.size 5 1 v ls.flatten.length (cells8 ls.flatten) ∧ Below w.heap.size w w' := by
  have hle := ha.le
  have HL := Lib.hid ha.len
  go_enter Tryd.func44, Tryd.ntmps44
  go_wp2
  go_loop [3, 11] (fun s i => ∃ k S : Nat, k ≤ n ∧ i = .int .i64 k ∧ s = .int .i64 S ∧ Hid (S = (ls.take k).flatten.length)) (fun _ i => n - (intOf i).toNat)
  case atStart => exact ⟨0, 0, Nat.zero_le _, rfl, rfl, by simp [Hid]⟩
  case round =>
    obtain ⟨k, S, hk, rfl, rfl, HS⟩ := hrel
    by_cases hlt : k < n
    · obtain ⟨b, o, A', n', c', rfl, _, hc, hbs⟩ := ha.at hlt
      have hkl : k < ls.length := by rw [HL.out]; exact hlt
      have HS2 := Lib.hid (take_flat_len ls k hkl)
      have hb1 : S + n' ≤ 4294967296 := by
        have h1 := take_flat_le ls (k + 1)
        rw [HS2.out, hbs.len, ← HS.out] at h1
        omega
      have HN := Lib.hid hbs.len
      clear hbs
      go_wp2
      go_round
      case rel => exact ⟨k + 1, S + n', by omega, by go_num, by go_num, by show _ = _; rw [HS2.out, HN.out, ← HS.out]⟩
      case measure => simp [intOf]; omega
    · obtain rfl : k = n := by omega
      have HS3 : Hid (S = ls.flatten.length) := by
        have h1 := HS.out
        rw [List.take_of_length_le (by rw [HL.out]; exact Nat.le_refl _)] at h1
        exact h1
      have hS : S ≤ 4294967296 := by rw [HS3.out]; exact hn
      clear HS
      go_wp2_with (go_at_call 58; refine (grow0_any S _ hS).mono ?_; rintro e w1 ⟨v1, rfl, hown, hb1⟩)
      have H1 := Lib.hid hown
      clear hown
      have ha1 := ha.below hb1
      go_wp2
      go_loopw [6, 27] (fun v i wr => ∃ k' : Nat, k' ≤ k ∧ i = .int .i64 k' ∧ Hid (wr.ownsRow w.heap.size 5 1 v (ls.take k').flatten.length (cells8 (ls.take k').flatten)) ∧ Below w.heap.size w wr) (fun _ i _ => k - (intOf i).toNat)
      case atStart => exact ⟨0, Nat.zero_le _, rfl, H1, hb1⟩
      case round =>
        obtain ⟨j, hj, rfl, H, hB⟩ := hrel
        by_cases hlt2 : j < k
        · obtain ⟨b, o, A', n', c', rfl, _, hc, hbs⟩ := (ha.below hB).at hlt2
          have hkl : j < ls.length := by rw [HL.out]; exact hlt2
          have HT := Lib.hid (take_flat ls j hkl)
          have HTL := Lib.hid (take_flat_len ls j hkl)
          have h1 := take_flat_le ls (j + 1)
          rw [HTL.out, hbs.len] at h1
          generalize (ls.take j).flatten = F at *
          go_wp2_with (at_builtin; refine wpList_app el8 rfl _ _ rfl w.heap.size _ F.length (cells8 F) rfl H.out A' n' c' (cells8 ls[j]) rfl ?_ ?_ hbs.news (cells8_one _) ?_ ?_ hB.size ?_)
          · rw [cells8_length, hbs.len]
          · exact fun h => ⟨by have := hbs.nil h; have := hbs.cap; omega, hbs.nil h⟩
          · simp only [maxLen]; omega
          · omega
          intro v' w' hown' hg _
          have hb' := below_of_grown H.out hB.size hg
          have H' : Hid (w'.ownsRow w.heap.size 5 1 v' (ls.take (j + 1)).flatten.length (cells8 (ls.take (j + 1)).flatten)) := by
            rw [HTL.out, HT.out, cells8_append, hbs.len]; exact hown'
          clear hown' hg H
          go_wp2
          go_roundw
          case rel => exact ⟨j + 1, by omega, by go_num, H', hB.trans hb'⟩
          case measure => simp [intOf]; omega
        · obtain rfl : j = k := by omega
          have H' : Hid (wr.ownsRow w.heap.size 5 1 u6 ls.flatten.length (cells8 ls.flatten)) := by
            have h1 := H.out
            rw [List.take_of_length_le (by rw [HL.out]; exact Nat.le_refl _)] at h1
            exact h1
          clear H
          go_wp2
          go_ret
          exact ⟨_, rfl, H'.out, hB⟩

set_option maxHeartbeats 400000 in
theorem join_any (A : Option Addr) (n c : Nat) (ls : List (List UInt8)) (w : World) (ha : Ls w w.heap.size A n c ls) (hn : ls.flatten.length ≤ 4294967296) :
    Calls Tryd.prog 25 #[.slice A n c] w fun e w' => ∃ v, e = .returned v ∧ w'.ownsRow w.heap.size 5 1 v ls.flatten.length (cells8 ls.flatten) ∧ Below w.heap.size w w' := by
  go_enter Tryd.func25, Tryd.ntmps25
  go_wp2_with (go_at_call 44; refine (concat_any A n c ls _ ha hn).mono ?_; rintro e w1 ⟨v1, rfl, hown, hb1⟩)
  have H1 := Lib.hid hown
  clear hown
  go_wp2
  go_ret
  exact ⟨_, rfl, H1.out, hb1⟩
end Go.Proofs.YtckmobpjdpjocaaDoor

namespace Go.Proofs.YtckmobpjdpjocaaDoor
open Go.RowKit
set_option maxHeartbeats 400000 in
theorem refpad_any (A : Option Addr) (n c : Nat) (wide : Int) (xs : List UInt8) (w : World) (ha : Bs w w.heap.size A n c xs) (hn : n ≤ 4294967296) (hw : wide ≤ 4294967296) :
    Calls Tryd.prog 28 #[.slice A n c, .int .i64 wide] w fun e w' => ∃ v, e = .returned v ∧ w'.ownsRow w.heap.size 5 1 v (padL xs wide).length (cells8 (padL xs wide)) ∧ Below w.heap.size w w' := by
  have HL := Lib.hid ha.len
  go_enter Tryd.func28, Tryd.ntmps28
  go_wp2_with (at_builtin; refine wpList_app el8 rfl _ _ rfl w.heap.size _ 0 [] rfl (own_nil _ _ _) A n c (cells8 xs) rfl ?_ ?_ ha.news (cells8_one _) ?_ ?_ (Nat.le_refl _) ?_)
  · rw [cells8_length, HL.out]
  · exact fun h => ⟨by have := ha.nil h; have := ha.cap; omega, ha.nil h⟩
  · simp only [maxLen]; omega
  · omega
  intro v1 w1 hown hg _
  have hbel : Below w.heap.size w w1 := (Below.refl _ _).grown hg (Nat.le_refl _) (by simp [Value.ownBlock])
  have H1 : Hid (w1.ownsRow w.heap.size 5 1 v1 n (cells8 xs)) := by simpa [Hid] using hown
  clear hown hg
  go_wp2
  go_loopw [5] (fun v wr => ∃ k : Nat, k ≤ wide.toNat - n ∧ Hid (wr.ownsRow w.heap.size 5 1 v (n + k) (cells8 (xs ++ List.replicate k 0))) ∧ Below w.heap.size w wr) (fun v _ => match v with | .slice _ m _ => wide.toNat - m | _ => 0)
  case atStart => exact ⟨0, Nat.zero_le _, by simpa [Hid] using H1, hbel⟩
  case round =>
    obtain ⟨k, hk, H, hb⟩ := hrel
    obtain ⟨A5, c5, rfl, _, _, _, _⟩ := own_form H.out
    by_cases hlt : ((n + k : Nat) : Int) < wide
    · go_wp2_with (at_builtin; refine wpList_app1 el8 rfl _ _ rfl w.heap.size _ (n + k) _ rfl H.out rfl rfl (by simp only [maxLen]; omega) (by omega) hb.size ?_)
      intro v' w' H' hb' _ _
      obtain ⟨A6, c6, rfl, _, _, _, _⟩ := own_form H'.out
      go_wp2
      go_roundw
      case rel =>
        refine ⟨k + 1, by omega, ?_, hb.trans hb'⟩
        have h1 := H'.out
        show World.ownsRow _ _ _ _ _ _ _
        have e : cells8 (xs ++ List.replicate (k + 1) 0) = cells8 (xs ++ List.replicate k 0) ++ [.int .u8 0] := by
          rw [List.replicate_succ', ← List.append_assoc, cells8_append]; rfl
        rw [e]
        exact h1
      case measure => simp; omega
    · have e : k = wide.toNat - n := by omega
      have H3 : Hid (wr.ownsRow w.heap.size 5 1 (.slice A5 (n + k) c5) (padL xs wide).length (cells8 (padL xs wide))) := by
        have h1 := H.out
        have e1 : (padL xs wide).length = n + k := by rw [padL_length, HL.out]; omega
        have e2 : padL xs wide = xs ++ List.replicate k 0 := by rw [padL, HL.out, e]
        rw [e1, e2]
        exact h1
      clear e H
      go_wp2
      go_ret
      exact ⟨_, rfl, H3.out, hb⟩
end Go.Proofs.YtckmobpjdpjocaaDoor

namespace Go.Proofs.YtckmobpjdpjocaaDoor
open Go.RowKit

section
variable {P : Program} {w w' : World} {ops : Array Oper} {rest : List Oper} {o : Oper} {a : Act} {Q : Exit → Act → World → Prop} {t e : TypeId}
/-- a slice, seen as a pointer to an array -/
theorem wpList_toArr {N : Nat} (ht : P.underlying t = some (.array N e)) (hg : o.guard = none) (x : Operand) (hop : o.op = .sliceToArrayPointer t x) {A : Option Addr} {n c : Nat} (hx : a.eval x = .slice A n c) (hn : N ≤ n)
    (h : wpList P ops Q rest (a.put o.dst (.pointer A)) w) : wpList P ops Q (o :: rest) a w := by
  refine wpList_plain hg fun K hK => ?_
  unfold Oper.wp
  simp only [execOp, hop, hx, Sem.run_bind, run_arrayAt w t e N A n c ht hn, Result.andThen_ok, Sem.run_pure]
  exact hK _ _ h
/-- many cells, read anywhere -/
theorem wpList_loadR {d : TypeDesc} {n : Nat} (E : Rw P t d n) (hg : o.guard = none) (x : Operand) (hop : o.op = .load t x) {g off : Nat} {vs : List Value} (hx : a.eval x = .pointer (some ⟨g, off, none⟩)) (hr : w.rangeAt g off vs) (hn : vs.length = n)
    (h : wpList P ops Q rest (a.put o.dst (.agg vs.toArray)) w) : wpList P ops Q (o :: rest) a w := by
  refine wpList_plain hg fun K hK => ?_
  unfold Oper.wp
  simp only [execOp, hop, hx, Sem.run_bind, run_loadAt_mid w g off t vs d hr E.ty E.row (by rw [E.size, hn]), Result.andThen_ok, Sem.run_pure]
  exact hK _ _ h
theorem Bs.rangeAt {B : Nat} {A : Option Addr} {n c : Nat} {l : List UInt8} {ad : Addr} (h : Bs w B A n c l) (hA : A = some ad) (hs : ad.spot = none) (k : Nat) : w.rangeAt ad.block ad.off (cells8 (l.take k)) := by
  intro j v hv
  obtain ⟨hj, rfl⟩ := cells8_some hv
  have hj' : j < l.length := by simp at hj; omega
  have h1 := h.news ad hA j _ (cells8_at l j hj')
  have e : ad.add j = ⟨ad.block, ad.off + j, none⟩ := by
    cases ad with
    | mk b o s => simp only at hs; subst hs; exact Addr.add_lit _ _ _
  rw [← e, h1]
  simp
theorem Bs.range {B : Nat} {A : Option Addr} {n c : Nat} {l : List UInt8} (h : Bs w B A n c l) (h0 : 0 < n) : ∃ b o, A = some ⟨b, o, none⟩ ∧ b < B ∧ ∀ k, w.rangeAt b o (cells8 (l.take k)) := by
  obtain ⟨b, o, rfl, hb, _⟩ := h.cells h0
  exact ⟨b, o, rfl, hb, fun k => h.rangeAt rfl rfl k⟩
theorem Ls.three {A A2 A3 : Option Addr} {n c n2 c2 n3 c3 : Nat} {l l2 l3 : List UInt8} (t : TypeId) (h : Bs w w.heap.size A n c l) (h2 : Bs w w.heap.size A2 n2 c2 l2) (h3 : Bs w w.heap.size A3 n3 c3 l3) :
    Ls (w.alloc (.cells #[.slice A n c, .slice A2 n2 c2, .slice A3 n3 c3] t)) (w.heap.size + 1) (some ⟨w.heap.size, 0, none⟩) 3 3 [l, l2, l3] := by
  refine ⟨rfl, Nat.le_refl _, by simp [maxLen], (fun h => by cases h), fun _ => ⟨w.heap.size, 0, rfl, by omega, fun j hj => ?_⟩⟩
  rcases (by simp at hj; omega : j = 0 ∨ j = 1 ∨ j = 2) with rfl | rfl | rfl
  · refine ⟨A, n, c, ?_, (h.alloc (Nat.le_refl _) _).more (by omega)⟩
    rw [World.cell?_alloc_at _ _ _ _ rfl]; rfl
  · refine ⟨A2, n2, c2, ?_, (h2.alloc (Nat.le_refl _) _).more (by omega)⟩
    rw [World.cell?_alloc_at _ _ _ _ rfl]; rfl
  · refine ⟨A3, n3, c3, ?_, (h3.alloc (Nat.le_refl _) _).more (by omega)⟩
    rw [World.cell?_alloc_at _ _ _ _ rfl]; rfl
end
theorem ls_three (W : World) (t : TypeId) {A B C : Option Addr} {n c m d k f : Nat} {la lb lc : List UInt8} (ha : Bs W W.heap.size A n c la) (hb : Bs W W.heap.size B m d lb) (hc : Bs W W.heap.size C k f lc) :
    Ls (W.alloc (.cells #[.slice A n c, .slice B m d, .slice C k f] t)) (W.alloc (.cells #[.slice A n c, .slice B m d, .slice C k f] t)).heap.size (some ⟨W.heap.size, 0, none⟩) 3 3 [la, lb, lc] := (Ls.three t ha hb hc).more (by simp)

/-- a head -/
def headL (e s : Nat) : List UInt8 := putN e 8 ++ (putN s 4 ++ putN 0 4)
theorem headL_length (e s : Nat) : (headL e s).length = 16 := by simp [headL, putN_length]
theorem putN_zeros : putN 0 4 = [0, 0, 0, 0] := by decide

theorem put8_any (n : Nat) (w : World) (hn : n < 18446744073709551616) :
    Calls Tryd.prog 31 #[.int .u64 n, .int .i64 8] w fun e w' => ∃ A c, e = .returned (.slice A 8 c) ∧ Bs w' w'.heap.size A 8 c (putN n 8) ∧ Below w.heap.size w w' := by
  refine (put_any n 8 w hn).mono ?_
  rintro e w' ⟨v, rfl, ho, hb⟩
  obtain ⟨A, c, rfl, hB⟩ := Bs.of_own ho
  exact ⟨A, c, rfl, hB, hb⟩
theorem put4_any (n : Nat) (w : World) (hn : n < 18446744073709551616) :
    Calls Tryd.prog 31 #[.int .u64 n, .int .i64 4] w fun e w' => ∃ A c, e = .returned (.slice A 4 c) ∧ Bs w' w'.heap.size A 4 c (putN n 4) ∧ Below w.heap.size w w' := by
  refine (put_any n 4 w hn).mono ?_
  rintro e w' ⟨v, rfl, ho, hb⟩
  obtain ⟨A, c, rfl, hB⟩ := Bs.of_own ho
  exact ⟨A, c, rfl, hB, hb⟩
theorem rput8_any (n : Nat) (w : World) (hn : n < 18446744073709551616) :
    Calls Tryd.prog 32 #[.int .u64 n, .int .i64 8] w fun e w' => ∃ A c, e = .returned (.slice A 8 c) ∧ Bs w' w'.heap.size A 8 c (putN n 8) ∧ Below w.heap.size w w' := by
  refine (refput_any n 8 w hn).mono ?_
  rintro e w' ⟨v, rfl, ho, hb⟩
  obtain ⟨A, c, rfl, hB⟩ := Bs.of_own ho
  exact ⟨A, c, rfl, hB, hb⟩
theorem rput4_any (n : Nat) (w : World) (hn : n < 18446744073709551616) :
    Calls Tryd.prog 32 #[.int .u64 n, .int .i64 4] w fun e w' => ∃ A c, e = .returned (.slice A 4 c) ∧ Bs w' w'.heap.size A 4 c (putN n 4) ∧ Below w.heap.size w w' := by
  refine (refput_any n 4 w hn).mono ?_
  rintro e w' ⟨v, rfl, ho, hb⟩
  obtain ⟨A, c, rfl, hB⟩ := Bs.of_own ho
  exact ⟨A, c, rfl, hB, hb⟩
/-- bytes, padded to a block -/
def pad256 (b : List UInt8) : List UInt8 := b ++ List.replicate (256 - b.length) 0
theorem pad256_length (b : List UInt8) (h : b.length ≤ 256) : (pad256 b).length = 256 := by simp [pad256]; omega
theorem padL_256 (b : List UInt8) : padL b 256 = pad256 b := rfl
theorem pad256_any (A : Option Addr) (n c : Nat) (xs : List UInt8) (w : World) (ha : Bs w w.heap.size A n c xs) (hn : n ≤ 256) :
    Calls Tryd.prog 42 #[.slice A n c, .int .i64 256] w fun e w' => ∃ A' c', e = .returned (.slice A' 256 c') ∧ Bs w' w'.heap.size A' 256 c' (pad256 xs) ∧ Below w.heap.size w w' := by
  refine (pad_any A n c 256 xs w ha (by omega) (by omega)).mono ?_
  rintro e w' ⟨v, rfl, ho, hb⟩
  have hl : (padL xs 256).length = 256 := by have := ha.len; exact pad256_length xs (by omega)
  obtain ⟨A', c', rfl, hB⟩ := Bs.of_own ho
  rw [hl] at hB
  exact ⟨A', c', by rw [hl], hB, hb⟩
theorem rpad256_any (A : Option Addr) (n c : Nat) (xs : List UInt8) (w : World) (ha : Bs w w.heap.size A n c xs) (hn : n ≤ 256) :
    Calls Tryd.prog 28 #[.slice A n c, .int .i64 256] w fun e w' => ∃ A' c', e = .returned (.slice A' 256 c') ∧ Bs w' w'.heap.size A' 256 c' (pad256 xs) ∧ Below w.heap.size w w' := by
  refine (refpad_any A n c 256 xs w ha (by omega) (by omega)).mono ?_
  rintro e w' ⟨v, rfl, ho, hb⟩
  have hl : (padL xs 256).length = 256 := by have := ha.len; exact pad256_length xs (by omega)
  obtain ⟨A', c', rfl, hB⟩ := Bs.of_own ho
  rw [hl] at hB
  exact ⟨A', c', by rw [hl], hB, hb⟩
theorem joinL_any (A : Option Addr) (n c : Nat) (ls : List (List UInt8)) (k : Nat) (l : List UInt8) (w : World) (ha : Ls w w.heap.size A n c ls) (hl : ls.flatten = l) (hk : l.length = k) (hn : k ≤ 4294967296) :
    Calls Tryd.prog 25 #[.slice A n c] w fun e w' => ∃ A' c', e = .returned (.slice A' k c') ∧ Bs w' w'.heap.size A' k c' l ∧ Below w.heap.size w w' := by
  refine (join_any A n c ls w ha (by rw [hl]; omega)).mono ?_
  rintro e w' ⟨v, rfl, ho, hb⟩
  obtain ⟨A', c', rfl, hB⟩ := Bs.of_own ho
  subst hl hk
  exact ⟨A', c', rfl, hB, hb⟩
end Go.Proofs.YtckmobpjdpjocaaDoor
