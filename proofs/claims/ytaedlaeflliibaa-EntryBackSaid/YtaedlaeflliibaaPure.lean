/- Numbers as bytes, the greatest first, and back: plain lemmas. -/
import Derived.Test.YtaedlaeflliibaaBase
namespace Go.Proofs.Ytaedlaeflliibaa

theorem snoc_ind {α : Type} {p : List α → Prop} (h0 : p []) (hs : ∀ l b, p l → p (l ++ [b])) (l : List α) : p l := by
  have h : ∀ m : List α, p m.reverse := fun m => by
    induction m with
    | nil => exact h0
    | cons b m ih => rw [List.reverse_cons]; exact hs _ _ ih
  simpa using h l.reverse

/-- n's lowest k bytes, the greatest first -/
def putN (n : Nat) : Nat → List UInt8
  | 0 => []
  | k + 1 => putN (n / 256) k ++ [UInt8.ofNat n]
/-- the number of bytes -/
def getN (l : List UInt8) : Nat := l.foldl (fun a b => a * 256 + b.toNat) 0

theorem putN_length (n k : Nat) : (putN n k).length = k := by
  induction k generalizing n with
  | zero => rfl
  | succ k ih => simp [putN, ih]
theorem pow256 (k : Nat) : 256 ^ (k + 1) = 256 * 256 ^ k := by rw [Nat.pow_succ, Nat.mul_comm]
/-- the first byte ahead of the others -/
theorem putN_front (n k : Nat) : putN n (k + 1) = UInt8.ofNat (n / 256 ^ k) :: putN n k := by
  induction k generalizing n with
  | zero => simp [putN]
  | succ k ih =>
    rw [putN, ih (n / 256)]
    rw [show putN n (k + 1) = putN (n / 256) k ++ [UInt8.ofNat n] from rfl]
    rw [Nat.div_div_eq_div_mul, ← pow256]
    rfl
theorem getN_append (l m : List UInt8) : getN (l ++ m) = getN l * 256 ^ m.length + getN m := by
  unfold getN
  rw [List.foldl_append]
  have gen : ∀ (m : List UInt8) (a : Nat), m.foldl (fun a b => a * 256 + b.toNat) a = a * 256 ^ m.length + m.foldl (fun a b => a * 256 + b.toNat) 0 := by
    intro m
    induction m with
    | nil => intro a; simp
    | cons x m ih =>
      intro a
      simp only [List.foldl_cons, List.length_cons]
      rw [ih (a * 256 + x.toNat), ih (0 * 256 + x.toNat), Nat.pow_succ, Nat.add_mul, Nat.zero_mul, Nat.zero_add, Nat.mul_assoc, Nat.mul_comm 256 (256 ^ m.length)]
      omega
  exact gen m _
theorem getN_snoc (l : List UInt8) (b : UInt8) : getN (l ++ [b]) = getN l * 256 + b.toNat := by
  rw [getN_append]; simp [getN]
theorem getN_lt (l : List UInt8) : getN l < 256 ^ l.length := by
  refine snoc_ind (p := fun l => getN l < 256 ^ l.length) (by simp [getN]) (fun l b ih => ?_) l
  · rw [getN_snoc, List.length_append, List.length_singleton, pow256]
    have := b.toNat_lt
    omega
theorem ofNat_toNat (n : Nat) : (UInt8.ofNat n).toNat = n % 256 := rfl
theorem getN_putN (n k : Nat) : getN (putN n k) = n % 256 ^ k := by
  induction k generalizing n with
  | zero => simp [putN, getN, Nat.mod_one]
  | succ k ih =>
    rw [putN, getN_snoc, ih, ofNat_toNat, pow256, Nat.mod_mul]
    omega
theorem putN_getN (l : List UInt8) : putN (getN l) l.length = l := by
  refine snoc_ind (p := fun l => putN (getN l) l.length = l) rfl (fun l b ih => ?_) l
  · rw [List.length_append, List.length_singleton, putN, getN_snoc]
    have hb := b.toNat_lt
    rw [show (getN l * 256 + b.toNat) / 256 = getN l by omega, ih]
    congr 1
    have : (UInt8.ofNat (getN l * 256 + b.toNat)) = b := by
      apply UInt8.toNat_inj.1
      rw [ofNat_toNat]; omega
    rw [this]
/-- noughts ahead change nothing -/
theorem getN_zeros (k : Nat) (l : List UInt8) : getN (List.replicate k 0 ++ l) = getN l := by
  rw [getN_append]
  have : getN (List.replicate k 0) = 0 := by
    induction k with
    | zero => rfl
    | succ k ih => rw [List.replicate_succ', getN_snoc, ih]; rfl
  rw [this]; omega
/-- modulo 2^64 the last eight bytes count alone -/
theorem getN_last (l : List UInt8) : getN l % 18446744073709551616 = getN (l.drop (l.length - 8)) := by
  have h := getN_append (l.take (l.length - 8)) (l.drop (l.length - 8))
  rw [List.take_append_drop] at h
  have hlt := getN_lt (l.drop (l.length - 8))
  have hd : (l.drop (l.length - 8)).length ≤ 8 := by simp; omega
  by_cases h8 : 8 ≤ l.length
  · have hd8 : (l.drop (l.length - 8)).length = 8 := by simp; omega
    rw [hd8] at h hlt
    have e : (256 : Nat) ^ 8 = 18446744073709551616 := by decide
    rw [e] at h hlt
    rw [h]; omega
  · have e0 : l.length - 8 = 0 := by omega
    rw [e0]; simp only [List.drop_zero]
    have h1 := getN_lt l
    have h2 : (256 : Nat) ^ l.length ≤ 256 ^ 8 := Nat.pow_le_pow_right (by decide) (by omega)
    have e : (256 : Nat) ^ 8 = 18446744073709551616 := by decide
    rw [e] at h2
    omega
theorem getN_take_succ (l : List UInt8) (k : Nat) (h : k < l.length) : getN (l.take (k + 1)) = getN (l.take k) * 256 + l[k].toNat := by
  rw [List.take_succ_eq_append_getElem h, getN_snoc]
theorem wrap_u64_nat (n : Nat) : IntKind.u64.wrap (n : Int) = ((n % 18446744073709551616 : Nat) : Int) := by rw [IntKind.wrap_u64]; omega
/-- one round of the program's Get -/
theorem get_step (g b : Nat) (hb : b < 256) (hg : g * 256 + b < 18446744073709551616) :
    bits .or .u64 (IntKind.u64.wrap ((g : Int) * 256)) (IntKind.u64.wrap (b : Int)) = ((g * 256 + b : Nat) : Int) := by
  have h1 : g * 256 < 18446744073709551616 := Nat.lt_of_le_of_lt (Nat.le_add_right _ _) hg
  have h2 : b < 18446744073709551616 := Nat.lt_of_le_of_lt (Nat.le_add_left _ _) hg
  have e3 := u64_or_nat (g * 256) b h1 h2
  have e4 := nat_join 8 (g * 256) b (by omega) (by omega)
  have e1 : IntKind.u64.wrap ((g : Int) * 256) = ((g * 256 : Nat) : Int) := by
    have := wrap_u64_nat (g * 256)
    rw [Nat.mod_eq_of_lt h1] at this
    rw [← this]; rfl
  have e2 : IntKind.u64.wrap (b : Int) = (b : Int) := by rw [wrap_u64_nat, Nat.mod_eq_of_lt h2]
  rw [e1, e2, e3, e4]
/-- one round of the document's Get -/
theorem refget_step (g b : Nat) :
    IntKind.u64.wrap (IntKind.u64.wrap (256 * ((g % 18446744073709551616 : Nat) : Int)) + IntKind.u64.wrap (b : Int)) = (((g * 256 + b) % 18446744073709551616 : Nat) : Int) := by
  simp only [IntKind.wrap_u64]; omega
theorem put_spot {n N k : Nat} (h : k < N) : (cells8 (List.replicate (N - k) 0 ++ putN n k))[N - 1 - k]? = some (.int .u8 0) := by
  rw [cells8_at _ _ (by simp [putN_length]; omega)]
  rw [List.getElem_append_left (by simp; omega)]
  simp
/-- one round of the program's Put -/
theorem put_row {n N k : Nat} (h : k < N) : (cells8 (List.replicate (N - k) 0 ++ putN n k)).set (N - 1 - k) (.int .u8 ((n : Int) / 2 ^ (8 * k) % 256)) = cells8 (List.replicate (N - (k + 1)) 0 ++ putN n (k + 1)) := by
  have e : List.replicate (N - k) (0 : UInt8) = List.replicate (N - (k + 1)) 0 ++ [0] := by
    rw [show N - k = N - (k + 1) + 1 by omega, List.replicate_succ']
  rw [e, putN_front, cells8_append, cells8_append, cells8_append]
  have hl : (cells8 (List.replicate (N - (k + 1)) 0)).length = N - 1 - k := by rw [cells8_length]; simp; omega
  rw [List.append_assoc, List.set_append_right _ _ (by omega), hl, Nat.sub_self]
  have h2 : ((n : Int) / 2 ^ (8 * k) % 256) = (((UInt8.ofNat (n / 256 ^ k)).toNat : Nat) : Int) := by
    rw [ofNat_toNat, show (256 : Nat) = 2 ^ 8 from rfl, ← Nat.pow_mul]
    simp
  rw [h2]
  simp [cells8]
theorem tdiv256 (q : Nat) (h : q < 18446744073709551616) : IntKind.u64.wrap ((q : Int) / 256) = ((q / 256 : Nat) : Int) := by
  have e : ((q : Int) / 256) = ((q / 256 : Nat) : Int) := rfl
  rw [e, wrap_u64_nat, Nat.mod_eq_of_lt (Nat.lt_of_le_of_lt (Nat.div_le_self _ _) h)]
theorem tmod256 (q : Nat) : ((q : Int) % 256) = ((UInt8.ofNat q).toNat : Int) := rfl
/-- the k-th byte of a number -/
theorem putN_at (n N k : Nat) (h : k < N) : (putN n N)[k]'(by rw [putN_length]; exact h) = UInt8.ofNat (n / 256 ^ (N - 1 - k)) := by
  induction N generalizing k with
  | zero => omega
  | succ N ih =>
    simp only [putN_front]
    cases k with
    | zero => simp
    | succ k => simp only [List.getElem_cons_succ]; rw [ih k (by omega)]; congr 3; omega
theorem putN_take (n N k : Nat) (h : k < N) : cells8 ((putN n N).take k) ++ [.int .u8 (((n / 256 ^ (N - 1 - k) : Nat) : Int) % 256)] = cells8 ((putN n N).take (k + 1)) := by
  rw [List.take_succ_eq_append_getElem (by rw [putN_length]; exact h), putN_at n N k h, cells8_append, tmod256]
  rfl
theorem getN_lt8 (l : List UInt8) (h : l.length ≤ 8) : getN l < 18446744073709551616 := by
  have h1 := getN_lt l
  have h2 : (256 : Nat) ^ l.length ≤ 256 ^ 8 := Nat.pow_le_pow_right (by decide) h
  have e : (256 : Nat) ^ 8 = 18446744073709551616 := by decide
  rw [e] at h2
  omega
end Go.Proofs.Ytaedlaeflliibaa
