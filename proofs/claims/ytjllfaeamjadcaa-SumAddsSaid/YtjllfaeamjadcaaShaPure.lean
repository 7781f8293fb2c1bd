/- SHA-256's rounds on words, as the document has them: plain definitions and lemmas. No program is named here. -/
import Derived.Test.YtjllfaeamjadcaaWords
import Derived.Test.YtjllfaeamjadcaaPure
namespace Go.Proofs.Ytjllfaeamjadcaa
open Go.RowKit

/-- x turned to the right by n -/
def turnR (x : UInt32) (n : Nat) : UInt32 := UInt32.ofNat (x.toNat / 2 ^ n) ||| UInt32.ofNat (x.toNat * 2 ^ (32 - n))
theorem turnR_val (x : UInt32) (n : Nat) : bits .or .u32 ((x.toNat : Int) / 2 ^ n) ((x.toNat : Int) * 2 ^ (32 - n) % 4294967296) = ((turnR x n).toNat : Int) := by
  have h1 : (x.toNat : Int) / 2 ^ n = ((UInt32.ofNat (x.toNat / 2 ^ n)).toNat : Int) := by
    have e : (UInt32.ofNat (x.toNat / 2 ^ n)).toNat = (x.toNat / 2 ^ n) % 4294967296 := rfl
    rw [e, Nat.mod_eq_of_lt (Nat.lt_of_le_of_lt (Nat.div_le_self _ _) x.toNat_lt)]
    simp
  have h2 : (x.toNat : Int) * 2 ^ (32 - n) % 4294967296 = ((UInt32.ofNat (x.toNat * 2 ^ (32 - n))).toNat : Int) := by
    have e : (UInt32.ofNat (x.toNat * 2 ^ (32 - n))).toNat = (x.toNat * 2 ^ (32 - n)) % 4294967296 := rfl
    rw [e]; simp
  rw [h1, h2, u32_or']
  rfl
theorem u32_shr3 (x : UInt32) : (x.toNat : Int) / (8 : Int) = ((x >>> 3).toNat : Int) := by
  have e : (x >>> 3).toNat = x.toNat / 8 := by rw [UInt32.toNat_shiftRight]; simp [Nat.shiftRight_eq_div_pow]
  rw [e]; rfl
theorem u32_shr10 (x : UInt32) : (x.toNat : Int) / (1024 : Int) = ((x >>> 10).toNat : Int) := by
  have e : (x >>> 10).toNat = x.toNat / 1024 := by rw [UInt32.toNat_shiftRight]; simp [Nat.shiftRight_eq_div_pow]
  rw [e]; rfl
def sig0 (x : UInt32) : UInt32 := turnR x 7 ^^^ turnR x 18 ^^^ x >>> 3
def sig1 (y : UInt32) : UInt32 := turnR y 17 ^^^ turnR y 19 ^^^ y >>> 10
/-- the next word -/
def nextW (m : List UInt32) : UInt32 := m.getD (m.length - 16) 0 + sig0 (m.getD (m.length - 15) 0) + m.getD (m.length - 7) 0 + sig1 (m.getD (m.length - 2) 0)
def extW : Nat → List UInt32 → List UInt32
  | 0, l => l
  | k + 1, l => extW k l ++ [nextW (extW k l)]
theorem extW_length (k : Nat) (l : List UInt32) : (extW k l).length = l.length + k := by
  induction k with
  | zero => rfl
  | succ k ih => simp [extW, ih]; omega
def word (b : List UInt8) (i : Nat) : UInt32 := UInt32.ofNat (getN ((b.take (4 * i + 4)).drop (4 * i)))
def first (b : List UInt8) (k : Nat) : List UInt32 := (List.range k).map (word b)
theorem first_succ (b : List UInt8) (k : Nat) : first b (k + 1) = first b k ++ [word b k] := by
  unfold first; rw [List.range_succ, List.map_append]; rfl
theorem first_length (b : List UInt8) (k : Nat) : (first b k).length = k := by simp [first]
def wordsL (b : List UInt8) : List UInt32 := extW 48 (first b 16)
theorem wordsL_length (b : List UInt8) : (wordsL b).length = 64 := by unfold wordsL; rw [extW_length, first_length]
theorem word_val (b : List UInt8) (i : Nat) : IntKind.u32.wrap ((getN ((b.take (4 * i + 4)).drop (4 * i)) % 18446744073709551616 : Nat) : Int) = ((word b i).toNat : Int) := by
  have e : (word b i).toNat = getN ((b.take (4 * i + 4)).drop (4 * i)) % 4294967296 := rfl
  rw [IntKind.wrap_u32, e]; omega
theorem xor3_val (p q r : UInt32) (z : Int) (hz : z = (r.toNat : Int)) : bits .xor .u32 ((p.toNat ^^^ q.toNat : Nat) : Int) z = ((p ^^^ q ^^^ r).toNat : Int) := by
  rw [hz, ← UInt32.toNat_xor, u32_xor']
theorem next_val (a x d y : UInt32) :
    IntKind.u32.wrap (IntKind.u32.wrap (IntKind.u32.wrap ((a.toNat : Int) + bits .xor .u32 (((turnR x 7).toNat ^^^ (turnR x 18).toNat : Nat) : Int) ((x.toNat : Int) / 8)) + (d.toNat : Int)) + bits .xor .u32 (((turnR y 17).toNat ^^^ (turnR y 19).toNat : Nat) : Int) ((y.toNat : Int) / 1024)) = ((a + sig0 x + d + sig1 y).toNat : Int) := by
  have e1 := xor3_val (turnR x 7) (turnR x 18) _ _ (u32_shr3 x)
  have e2 := xor3_val (turnR y 17) (turnR y 19) _ _ (u32_shr10 y)
  rw [e1, e2, u32_add, u32_add, u32_add]
  rfl

/-- the eight words of a state -/
structure St where
  (a b c d e f g h : UInt32)
def St.list (s : St) : List UInt32 := [s.a, s.b, s.c, s.d, s.e, s.f, s.g, s.h]
def big0 (x : UInt32) : UInt32 := turnR x 2 ^^^ turnR x 13 ^^^ turnR x 22
def big1 (x : UInt32) : UInt32 := turnR x 6 ^^^ turnR x 11 ^^^ turnR x 25
def chR (x y z : UInt32) : UInt32 := x &&& y ||| (x ^^^ 4294967295) &&& z
def mjR (x y z : UInt32) : UInt32 := x &&& y ||| x &&& z ||| y &&& z
def tOf (s : St) (k w : UInt32) : UInt32 := s.h + big1 s.e + chR s.e s.f s.g + k + w
def uOf (s : St) : UInt32 := big0 s.a + mjR s.a s.b s.c
def rnd (s : St) (k w : UInt32) : St := ⟨tOf s k w + uOf s, s.a, s.b, s.c, s.d + tOf s k w, s.e, s.f, s.g⟩
theorem t_val (s : St) (k w : UInt32) :
    ((((s.h.toNat : Int) + bits .xor .u32 (bits .xor .u32 ((turnR s.e 6).toNat : Int) ((turnR s.e 11).toNat : Int)) ((turnR s.e 25).toNat : Int) + bits .or .u32 (bits .and .u32 (s.e.toNat : Int) (s.f.toNat : Int)) (bits .and .u32 (bits .xor .u32 (s.e.toNat : Int) 4294967295) (s.g.toNat : Int)) + (k.toNat : Int)) % 4294967296 + (w.toNat : Int)) % 4294967296) = ((tOf s k w).toNat : Int) := by
  have e0 : (4294967295 : Int) = (((4294967295 : UInt32).toNat : Nat) : Int) := rfl
  rw [e0, u32_xor', u32_xor', u32_xor', u32_and', u32_and', u32_or']
  unfold tOf big1 chR
  simp only [UInt32.toNat_add]
  omega
theorem u_val (s : St) :
    ((bits .xor .u32 (bits .xor .u32 ((turnR s.a 2).toNat : Int) ((turnR s.a 13).toNat : Int)) ((turnR s.a 22).toNat : Int) + bits .or .u32 (bits .or .u32 (bits .and .u32 (s.a.toNat : Int) (s.b.toNat : Int)) (bits .and .u32 (s.a.toNat : Int) (s.c.toNat : Int))) (bits .and .u32 (s.b.toNat : Int) (s.c.toNat : Int))) % 4294967296) = ((uOf s).toNat : Int) := by
  rw [u32_xor', u32_xor', u32_and', u32_and', u32_and', u32_or', u32_or']
  unfold uOf big0 mjR
  simp only [UInt32.toNat_add]
  omega
def KL : List UInt32 := [0x428a2f98, 0x71374491, 0xb5c0fbcf, 0xe9b5dba5, 0x3956c25b, 0x59f111f1, 0x923f82a4, 0xab1c5ed5, 0xd807aa98, 0x12835b01, 0x243185be, 0x550c7dc3, 0x72be5d74, 0x80deb1fe, 0x9bdc06a7, 0xc19bf174, 0xe49b69c1, 0xefbe4786, 0x0fc19dc6, 0x240ca1cc, 0x2de92c6f, 0x4a7484aa, 0x5cb0a9dc, 0x76f988da, 0x983e5152, 0xa831c66d, 0xb00327c8, 0xbf597fc7, 0xc6e00bf3, 0xd5a79147, 0x06ca6351, 0x14292967, 0x27b70a85, 0x2e1b2138, 0x4d2c6dfc, 0x53380d13, 0x650a7354, 0x766a0abb, 0x81c2c92e, 0x92722c85, 0xa2bfe8a1, 0xa81a664b, 0xc24b8b70, 0xc76c51a3, 0xd192e819, 0xd6990624, 0xf40e3585, 0x106aa070, 0x19a4c116, 0x1e376c08, 0x2748774c, 0x34b0bcb5, 0x391c0cb3, 0x4ed8aa4a, 0x5b9cca4f, 0x682e6ff3, 0x748f82ee, 0x78a5636f, 0x84c87814, 0x8cc70208, 0x90befffa, 0xa4506ceb, 0xbef9a3f7, 0xc67178f2]
theorem KL_length : KL.length = 64 := by rfl
def rounds (W : List UInt32) (s : St) : Nat → St
  | 0 => s
  | n + 1 => rnd (rounds W s n) (KL.getD n 0) (W.getD n 0)
def addS (s x : St) : St := ⟨s.a + x.a, s.b + x.b, s.c + x.c, s.d + x.d, s.e + x.e, s.f + x.f, s.g + x.g, s.h + x.h⟩
def stepS (s : St) (b : List UInt8) : St := addS s (rounds (wordsL b) s 64)
def St0 : St := ⟨0x6a09e667, 0xbb67ae85, 0x3c6ef372, 0xa54ff53a, 0x510e527f, 0x9b05688c, 0x1f83d9ab, 0x5be0cd19⟩
/-- what the first k blocks come to -/
def foldB (l : List UInt8) : Nat → St
  | 0 => St0
  | k + 1 => stepS (foldB l k) ((l.take (64 * k + 64)).drop (64 * k))
/-- what stands behind n bytes -/
def ending (n : Nat) : List UInt8 := 128 :: (List.replicate ((119 - n % 64) % 64) 0 ++ putN (8 * n) 8)
def padded (l : List UInt8) : List UInt8 := l ++ ending l.length
/-- a state's bytes -/
def digestL (s : St) : List UInt8 := (s.list.map fun x => putN x.toNat 4).flatten
def shaL (l : List UInt8) : List UInt8 := digestL (foldB (padded l) ((padded l).length / 64))
end Go.Proofs.Ytjllfaeamjadcaa
