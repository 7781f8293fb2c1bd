/- The contracts of the small ones: Long, Same, rise, strings.Compare, and the document's at. -/
import Derived.Test.YtaedlaeflliibaaEnQ
import Derived.Test.YtaedlaeflliibaaEnN
import Derived.BigQuiet
namespace Go.Proofs.Ytaedlaeflliibaa
open Go.RowKit

theorem less_str (x y : List UInt8) : Op.bytesLess x y = decide (x < y) := bytesLess_eq x y
theorem leq_str (x y : List UInt8) : (Op.bytesLess x y || x == y) = !decide (y < x) := by
  rw [less_str]
  by_cases h : x < y
  · have h2 : ¬ y < x := fun k => u8lt_irrefl _ (u8lt_trans h k)
    simp [h, h2]
  · by_cases e : x = y
    · subst e; simp [u8lt_irrefl]
    · have h2 := u8lt_tri h e
      simp [h, h2, e]
set_option maxHeartbeats 1000000 in
theorem rise_any (A : Option Addr) (n c : Nat) (l : List En) (w : World) (L : Nat) (ha : Ens w L A n c l) :
    Calls Try.prog 42 #[.slice A n c] w fun e w' => e = .returned (.bool (riseL l)) ∧ ∀ B, Below B w w' := by
  have hle := ha.le
  have HL : Kp _ := ⟨ha.len⟩
  have HI : Kp _ := ⟨ha⟩
  obtain ⟨b, hb⟩ : ∃ b, b = riseL l := ⟨_, rfl⟩
  rw [← hb]
  have HB : Kp _ := ⟨hb⟩
  clear hb ha
  go_enter Try.func42, Try.ntmps42
  go_wp2
  go_loopw [3] (fun i wr => ∃ k : Nat, 1 ≤ k ∧ i = .int .i64 k ∧ Kp (∀ B, Below B w wr) ∧ Kp (∀ j (hj : j + 1 < l.length), j + 1 < k → l[j].1 < l[j + 1].1)) (fun i _ => n - (intOf i).toNat)
  case atStart => exact ⟨1, Nat.le_refl _, rfl, ⟨fun B => Below.refl _ _⟩, ⟨fun j _ h => by omega⟩⟩
  case round =>
    obtain ⟨k, hk, rfl, HW, HR⟩ := hrel
    by_cases hlt : k < n
    · obtain ⟨p, rfl⟩ : ∃ p, k = p + 1 := ⟨k - 1, by omega⟩
      have hki : p + 1 < l.length := by rw [HL.out]; exact hlt
      have hp0 : p < l.length := by omega
      have hEw := HI.out.below (HW.out L)
      obtain ⟨b1, o1, rfl, hb1, c1, _⟩ := hEw.at (i := p) (by omega)
      obtain ⟨b2, o2, e2, hb2, c2, _⟩ := hEw.at (i := p + 1) hlt
      cases e2
      have HX : Kp (∀ j (hj : j + 1 < l.length), j = p → (l[p]'hp0).1 = l[j].1 ∧ l[p + 1].1 = l[j + 1].1) := ⟨fun j hj e => by
        subst e
        exact ⟨rfl, rfl⟩⟩
      have HF : Kp (¬ (l[p]'hp0).1 < l[p + 1].1 → riseL l = false) := ⟨fun h => rise_false hki h⟩
      have hls := less_str (l[p]'hp0).1 l[p + 1].1
      generalize (l[p]'hp0).1 = x at *
      generalize l[p + 1].1 = y at *
      have hix : ((p + 1 : Nat) : Int) - 1 = (p : Int) := by omega
      have hb3 : (0 : Int) ≤ (p : Int) ∧ (p : Int) < (n : Int) := by omega
      have hb4 : (0 : Int) ≤ ((p + 1 : Nat) : Int) ∧ ((p + 1 : Nat) : Int) < (n : Int) := by omega
      by_cases hxy : x < y
      · rw [decide_eq_true hxy] at hls
        go_wp2_with fail
        go_quiet (fail)
        go_wp2
        go_roundw
        case rel => exact ⟨p + 2, by omega, by go_num, ⟨fun B => below_drewN (HW.out B) _⟩, ⟨fun j hj h => by
          by_cases e : j = p
          · obtain ⟨e1, e2⟩ := HX.out j hj e
            rw [← e1, ← e2]; exact hxy
          · exact HR.out j hj (by omega)⟩⟩
        case measure => simp [intOf]; omega
      · rw [decide_eq_false hxy] at hls
        have HB2 : Kp (b = false) := ⟨by rw [HB.out]; exact HF.out hxy⟩
        go_wp2_with fail
        go_quiet (fail)
        go_wp2
        go_ret
        exact ⟨by rw [HB2.out]; rfl, fun B => below_drewN (HW.out B) _⟩
    · have HB2 : Kp (b = true) := ⟨by rw [HB.out]; exact rise_true fun i hi => HR.out i hi (by have := HL.out; omega)⟩
      go_wp2
      go_ret
      exact ⟨by rw [HB2.out]; rfl, HW.out⟩
/-- how two names stand -/
def cmpN (a b : List UInt8) : Int := Lib.compareBytes a b
theorem cmpN_eq (a b : List UInt8) : cmpN a b = if a < b then -1 else if b < a then 1 else 0 := by
  unfold cmpN
  induction a generalizing b with
  | nil => cases b <;> simp [Lib.compareBytes]
  | cons x a ih =>
    cases b with
    | nil => simp [Lib.compareBytes]
    | cons y b =>
      unfold Lib.compareBytes
      simp only [List.cons_lt_cons_iff]
      by_cases h1 : x < y
      · simp [h1]
      · by_cases h2 : y < x
        · have h3 : x ≠ y := fun e => by subst e; exact h1 h2
          simp [h1, h2, h3]
        · have h3 : x = y := UInt8.le_antisymm (UInt8.not_lt.1 h2) (UInt8.not_lt.1 h1)
          subst h3
          simp [h1, ih]
theorem compare_any (a b : List UInt8) (w : World) :
    Calls Try.prog 52 #[.string ⟨a.toArray⟩, .string ⟨b.toArray⟩] w fun e w' => e = .returned (.int .i64 (cmpN a b)) ∧ w' = w := by
  have hx : ∀ w, (callFunc 61 #[.string ⟨a.toArray⟩, .string ⟨b.toArray⟩]).run Try.prog w = .ok (.value (.int .i64 (cmpN a b))) w := by
    intro w
    rw [run_callFunc_extern Try.func61 (by kernel_rfl) (by kernel_rfl) (by kernel_rfl) (e := Extern.BytealgCompare.compare) (by kernel_rfl), Lib.run_compareString]
    rfl
  go_enter Try.func52, Try.ntmps52
  go_wp2
  go_ret
  exact ⟨rfl, rfl⟩
/-- the sum of it is some number -/
theorem reflong_any (A : Option Addr) (n c : Nat) (l : List En) (w : World) (L : Nat) (ha : Ens w L A n c l) :
    Calls Try.prog 11 #[.slice A n c] w fun e w' => (∃ z, e = .returned (.int .i64 z)) ∧ w' = w := by
  have hle := ha.le
  have HL : Kp _ := ⟨ha.len⟩
  have HI : Kp _ := ⟨ha⟩
  clear ha
  go_enter Try.func11, Try.ntmps11
  go_wp2
  go_loop [3, 4] (fun s i => ∃ (k : Nat) (z : Int), k ≤ n ∧ i = .int .i64 k ∧ s = .int .i64 z) (fun _ i => n - (intOf i).toNat)
  case atStart => exact ⟨0, 0, Nat.zero_le _, rfl, rfl⟩
  case round =>
    obtain ⟨k, z, hk, rfl, rfl⟩ := hrel
    by_cases hlt : k < n
    · obtain ⟨b, o, rfl, _, c1, _⟩ := HI.out.at hlt
      generalize (l[k]'(by have := HL.out; omega)).1 = x at *
      go_wp2
      go_round
      case rel => exact ⟨k + 1, _, by omega, by go_num, rfl⟩
      case measure => simp [intOf]; omega
    · obtain rfl : k = n := by omega
      go_wp2
      go_ret
      exact ⟨⟨_, rfl⟩, rfl⟩
/-- where a name is first -/
def hasE (l : List En) (n : List UInt8) : Bool := l.any fun x => x.1 == n
def idxE (l : List En) (n : List UInt8) : Nat := l.findIdx fun x => x.1 == n
theorem idxE_lt {l : List En} {n : List UInt8} : idxE l n < l.length ↔ hasE l n = true := by
  unfold idxE hasE
  rw [List.findIdx_lt_length, List.any_eq_true]
theorem idxE_name {l : List En} {n : List UInt8} (h : idxE l n < l.length) : l[idxE l n].1 = n := by
  have := List.findIdx_getElem (p := fun x : En => x.1 == n) (w := h)
  exact eq_of_beq this
theorem idxE_of {l : List En} {n : List UInt8} {k : Nat} (hk : k < l.length) (h : l[k].1 = n) (h2 : ∀ j (hj : j < l.length), j < k → l[j].1 ≠ n) : idxE l n = k := by
  unfold idxE
  rw [List.findIdx_eq hk]
  exact ⟨by simpa using h, fun j hj => by simpa using h2 j (by omega) hj⟩
theorem hasE_false {l : List En} {n : List UInt8} (h : ∀ j (hj : j < l.length), l[j].1 ≠ n) : hasE l n = false := by
  cases e : hasE l n with
  | false => rfl
  | true =>
    have h1 := idxE_lt.2 e
    exact absurd (idxE_name h1) (h _ h1)
set_option maxHeartbeats 1000000 in
theorem at_any (A : Option Addr) (n c : Nat) (l : List En) (x : List UInt8) (w : World) (L : Nat) (ha : Ens w L A n c l) :
    Calls Try.prog 38 #[.slice A n c, .string ⟨x.toArray⟩] w fun e w' => e = .returned (.int .i64 (if hasE l x then ((idxE l x : Nat) : Int) else -1)) ∧ w' = w := by
  have hle := ha.le
  have HL : Kp _ := ⟨ha.len⟩
  have HI : Kp _ := ⟨ha⟩
  obtain ⟨z, hz⟩ : ∃ z : Int, z = if hasE l x then ((idxE l x : Nat) : Int) else -1 := ⟨_, rfl⟩
  rw [← hz]
  have HZ : Kp _ := ⟨hz⟩
  clear ha hz
  go_enter Try.func38, Try.ntmps38
  go_wp2
  go_loop [5] (fun i => ∃ k : Nat, k ≤ n ∧ i = .int .i64 k ∧ Kp (∀ j (hj : j < l.length), j < k → l[j].1 ≠ x)) (fun i => n - (intOf i).toNat)
  case atStart => exact ⟨0, Nat.zero_le _, rfl, ⟨fun j _ h => by omega⟩⟩
  case round =>
    obtain ⟨k, hk, rfl, HR⟩ := hrel
    by_cases hlt : k < n
    · obtain ⟨b, o, rfl, _, c1, _⟩ := HI.out.at hlt
      have hki : k < l.length := by rw [HL.out]; exact hlt
      have HX : Kp (∀ j (hj : j < l.length), j = k → l[k].1 = l[j].1) := ⟨fun j hj e => by subst e; rfl⟩
      have HY : Kp (l[k].1 = x → z = (k : Int)) := ⟨fun h => by
        have h1 := idxE_of hki h HR.out
        have h2 : hasE l x = true := idxE_lt.1 (by rw [h1]; exact hki)
        rw [HZ.out, if_pos h2, h1]⟩
      have hq := eqs_str l[k].1 x
      generalize l[k].1 = y at *
      by_cases hxy : y = x
      · have hyx : (y == x) = true := by simpa using hxy
        rw [hyx] at hq
        have HZ2 : Kp (z = (k : Int)) := ⟨HY.out hxy⟩
        go_wp2
        go_ret
        exact ⟨by rw [HZ2.out]; rfl, rfl⟩
      · have hyx : (y == x) = false := by simpa using hxy
        rw [hyx] at hq
        go_wp2
        go_round
        case rel => exact ⟨k + 1, by omega, by go_num, ⟨fun j hj h => by
          by_cases e : j = k
          · rw [← HX.out j hj e]; exact hxy
          · exact HR.out j hj (by omega)⟩⟩
        case measure => simp [intOf]; omega
    · have HZ2 : Kp (z = -1) := ⟨by rw [HZ.out, hasE_false fun j hj => HR.out j hj (by have := HL.out; omega)]; rfl⟩
      go_wp2
      go_ret
      exact ⟨by rw [HZ2.out]; rfl, rfl⟩
end Go.Proofs.Ytaedlaeflliibaa
