/- The contracts of Named, the program's and the document's. -/
import Derived.Test.YtaedlaeflliibaaEnP
import Derived.Test.YtaedlaeflliibaaSame
namespace Go.Proofs.Ytaedlaeflliibaa
open Go.RowKit

theorem eqs_str (l m : List UInt8) : ((⟨l.toArray⟩ : ByteArray) == ⟨m.toArray⟩) = (l == m) := by
  show (l.toArray == m.toArray) = (l == m)
  simp
theorem okNm_len (l : List UInt8) : okNm l = true → 1 ≤ l.length ∧ l.length ≤ 27 := by
  unfold okNm
  simp only [Bool.and_eq_true, decide_eq_true_eq]
  exact fun h => ⟨h.1.1.1.2, h.1.1.2⟩
set_option maxHeartbeats 1000000 in
theorem named_any (l : List UInt8) (w : World) (hl : l.length ≤ 140737488351232) :
    Calls Try.prog 25 #[.string ⟨l.toArray⟩] w fun e w' => e = .returned (.bool (okNm l)) ∧ Below w.heap.size w w' := by
  have hsz : (ByteArray.mk l.toArray).size = l.length := by simp [ByteArray.size]
  obtain ⟨b, hb⟩ : ∃ b, b = okNm l := ⟨_, rfl⟩
  rw [← hb]
  have HB : Kp _ := ⟨hb⟩
  clear hb
  have H27 := (⟨okNm_len l⟩ : Kp _)
  have e1 := eqs_str l []
  have e2 := eqs_str l [46]
  have e3 := eqs_str l [46, 46]
  by_cases h1 : l = []
  · subst h1
    obtain rfl : b = false := HB.out
    go_enter Try.func25, Try.ntmps25
    go_wp2
    go_ret
    exact ⟨rfl, Below.refl _ _⟩
  by_cases h2 : l = [46]
  · subst h2
    obtain rfl : b = false := HB.out
    go_enter Try.func25, Try.ntmps25
    go_wp2
    go_ret
    exact ⟨rfl, Below.refl _ _⟩
  by_cases h3 : l = [46, 46]
  · subst h3
    obtain rfl : b = false := HB.out
    go_enter Try.func25, Try.ntmps25
    go_wp2
    go_ret
    exact ⟨rfl, Below.refl _ _⟩
  have i1 : l.isEmpty = false := by simpa using h1
  have i2 : (l == [46]) = false := by simpa using h2
  have i3 : (l == [46, 46]) = false := by simpa using h3
  rw [show (l == []) = false by simpa using h1] at e1
  rw [i2] at e2
  rw [i3] at e3
  have HB2 : Kp (b = (!(l.any slB) && decide (l.length ≤ 27))) := ⟨by
    have h0 : 1 ≤ l.length := by cases l with | nil => exact absurd rfl h1 | cons _ _ => simp
    have h4 : (l == dotL) = false := by simpa [dotL] using h2
    have h5 : (l == dotsL) = false := by simpa [dotsL] using h3
    rw [HB.out]; unfold okNm; simp [h0, h4, h5]⟩
  clear HB h1 h2 h3 H27
  have hl63 : l.length ≤ 9223372036854775807 := by omega
  go_enter Try.func25, Try.ntmps25
  go_wp2
  clear e1 e2 e3 i1 i2 i3
  go_loopw [4] (fun (_ : Value) w' => ∃ pos : Nat, w' = w.iter ⟨l.toArray⟩ pos ∧ pos ≤ l.length ∧ Kp ((l.take pos).any slB = false)) (fun _ w' => l.length - w'.iterPos w.heap.size)
  case atStart => exact ⟨0, rfl, Nat.zero_le _, ⟨by simp⟩⟩
  case round =>
    obtain ⟨pos, rfl, hpos, HC⟩ := hrel
    by_cases hp : pos < l.length
    · have hnx : ∀ ty, (Instr.next (.pointer (some ⟨w.heap.size, 0, none⟩)) true ty).run Try.prog (w.iter ⟨l.toArray⟩ pos) = _ := fun ty => run_next_any w ⟨l.toArray⟩ pos ty (by rw [hsz]; exact hp)
      have HA : Kp (slB l[pos] = true → l.any slB = true) := ⟨fun h => any_of_at slB l pos hp h⟩
      have HS : Kp (slB l[pos] = false → (l.take (pos + 1)).any slB = false) := ⟨fun h => by rw [any_take_succ slB l pos hp, HC.out, h]; rfl⟩
      have HI : Kp _ := ⟨slB_iff l[pos]⟩
      by_cases ha : l[pos].toNat < 128
      · have hd : Utf8.decode ⟨l.toArray⟩ pos = (l[pos].toNat, 1) := decode_ascii ⟨l.toArray⟩ pos (by rw [hsz]; exact hp) ha
        rw [hd] at hnx
        generalize l[pos].toNat = q at *
        by_cases q0 : q = 0
        · subst q0
          have HB3 : Kp (b = false) := ⟨by rw [HB2.out, HA.out (HI.out.2 (.inl rfl))]; rfl⟩
          go_wp2
          go_ret
          exact ⟨by rw [HB3.out]; rfl, (Below.refl _ _).alloc (Nat.le_refl _) _⟩
        by_cases q47 : q = 47
        · subst q47
          have HB3 : Kp (b = false) := ⟨by rw [HB2.out, HA.out (HI.out.2 (.inr rfl))]; rfl⟩
          go_wp2
          go_ret
          exact ⟨by rw [HB3.out]; rfl, (Below.refl _ _).alloc (Nat.le_refl _) _⟩
        have HS2 : Kp ((l.take (pos + 1)).any slB = false) := ⟨HS.out (by
          cases h : slB l[pos] with
          | false => rfl
          | true => rcases HI.out.1 h with h | h
                    · exact absurd h q0
                    · exact absurd h q47)⟩
        have c0 : ((q : Int) == 0) = false := by simp; omega
        have c47 : ((q : Int) == 47) = false := by simp; omega
        go_wp2
        go_roundw
        case rel => exact ⟨pos + 1, rfl, by omega, HS2⟩
        case measure => simp; omega
      · obtain ⟨d1, d2, d3, d4⟩ := decode_skip l pos hp (by omega)
        have HS2 : Kp ((l.take (pos + (Utf8.decode ⟨l.toArray⟩ pos).2)).any slB = false) := ⟨any_skip slB l pos _ HC.out fun j hj h1 h2 => by
          have := d3 j hj h1 h2
          cases h : slB l[j] with
          | false => rfl
          | true => rcases (slB_iff _).1 h with h | h <;> omega⟩
        obtain ⟨⟨q, k⟩, hqk⟩ : ∃ qk, qk = Utf8.decode ⟨l.toArray⟩ pos := ⟨_, rfl⟩
        rw [← hqk] at hnx d1 d2 d4 HS2
        clear hqk d3 HA HS HI ha
        simp only at hnx d1 d2 d4 HS2
        have c0 : ((q : Int) == 0) = false := by simp; omega
        have c47 : ((q : Int) == 47) = false := by simp; omega
        go_wp2
        go_roundw
        case rel => exact ⟨pos + k, rfl, by omega, HS2⟩
        case measure => simp; omega
    · have hnx : ∀ ty, (Instr.next (.pointer (some ⟨w.heap.size, 0, none⟩)) true ty).run Try.prog (w.iter ⟨l.toArray⟩ pos) = _ := fun ty => run_next_end w ⟨l.toArray⟩ pos ty (by rw [hsz]; exact hp)
      have HB3 : Kp (b = decide (l.length ≤ 27)) := ⟨by
        have h := HC.out
        rw [List.take_of_length_le (by omega)] at h
        rw [HB2.out, h]; rfl⟩
      go_wp2
      go_ret
      exact ⟨by rw [HB3.out]; simp; omega, (Below.refl _ _).alloc (Nat.le_refl _) _⟩
set_option maxHeartbeats 1000000 in
theorem refnamed_any (l : List UInt8) (w : World) (hl : l.length ≤ 140737488351232) :
    Calls Try.prog 26 #[.string ⟨l.toArray⟩] w fun e w' => e = .returned (.bool (okNm l)) ∧ w' = w := by
  have hsz : (ByteArray.mk l.toArray).size = l.length := by simp [ByteArray.size]
  obtain ⟨b, hb⟩ : ∃ b, b = okNm l := ⟨_, rfl⟩
  rw [← hb]
  have HB : Kp _ := ⟨hb⟩
  clear hb
  have hl63 : l.length ≤ 9223372036854775807 := by omega
  go_enter Try.func26, Try.ntmps26
  go_wp2
  go_loop [3] (fun i => ∃ pos : Nat, i = .int .i64 pos ∧ pos ≤ l.length ∧ Kp ((l.take pos).any slB = false)) (fun i => l.length - (intOf i).toNat)
  case atStart => exact ⟨0, rfl, Nat.zero_le _, ⟨by simp⟩⟩
  case round =>
    obtain ⟨pos, rfl, hpos, HC⟩ := hrel
    by_cases hp : pos < l.length
    · have HA : Kp (slB l[pos] = true → l.any slB = true) := ⟨fun h => any_of_at slB l pos hp h⟩
      have HS : Kp (slB l[pos] = false → (l.take (pos + 1)).any slB = false) := ⟨fun h => by rw [any_take_succ slB l pos hp, HC.out, h]; rfl⟩
      have HI : Kp _ := ⟨slB_iff l[pos]⟩
      have hq : (ByteArray.mk l.toArray)[pos]'(by rw [hsz]; exact hp) = l[pos] := rfl
      by_cases q0 : l[pos].toNat = 0
      · have q0' : ((ByteArray.mk l.toArray)[pos]'(by rw [hsz]; exact hp)).toNat = 0 := q0
        have HB3 : Kp (b = false) := ⟨by rw [HB.out, okNm, HA.out (HI.out.2 (.inl q0))]; rfl⟩
        go_wp2
        go_ret
        exact ⟨by rw [HB3.out]; rfl, rfl⟩
      have q0' : ¬ ((ByteArray.mk l.toArray)[pos]'(by rw [hsz]; exact hp)).toNat = 0 := q0
      by_cases q47 : l[pos].toNat = 47
      · have q47' : ((ByteArray.mk l.toArray)[pos]'(by rw [hsz]; exact hp)).toNat = 47 := q47
        have HB3 : Kp (b = false) := ⟨by rw [HB.out, okNm, HA.out (HI.out.2 (.inr q47))]; rfl⟩
        go_wp2
        go_ret
        exact ⟨by rw [HB3.out]; rfl, rfl⟩
      have q47' : ¬ ((ByteArray.mk l.toArray)[pos]'(by rw [hsz]; exact hp)).toNat = 47 := q47
      have HS2 : Kp ((l.take (pos + 1)).any slB = false) := ⟨HS.out (by
        cases h : slB l[pos] with
        | false => rfl
        | true => rcases HI.out.1 h with h | h
                  · exact absurd h q0
                  · exact absurd h q47)⟩
      have c0 : ((((ByteArray.mk l.toArray)[pos]'(by rw [hsz]; exact hp)).toNat : Int) == 0) = false := by simp; omega
      have c47 : ((((ByteArray.mk l.toArray)[pos]'(by rw [hsz]; exact hp)).toNat : Int) == 47) = false := by simp; omega
      clear hq q0 q47 HA HS HI q0' q47'
      go_wp2
      go_round
      case rel => exact ⟨pos + 1, by go_num, by omega, HS2⟩
      case measure => simp [intOf]; omega
    · have HB3 : Kp (b = ((decide (1 ≤ l.length) && decide (l.length ≤ 27)) && !(l == dotL) && !(l == dotsL))) := ⟨by
        have h := HC.out
        rw [List.take_of_length_le (by omega)] at h
        rw [HB.out, okNm, h]; rfl⟩
      have e2 := eqs_str l [46]
      have e3 := eqs_str l [46, 46]
      clear HC HB
      by_cases h1 : l.length < 1
      · have HB4 : Kp (b = false) := ⟨by rw [HB3.out, decide_eq_false (by omega)]; rfl⟩
        go_wp2
        go_ret
        exact ⟨by rw [HB4.out]; rfl, rfl⟩
      by_cases h27 : 27 < l.length
      · have HB4 : Kp (b = false) := ⟨by rw [HB3.out, decide_eq_false (by omega : ¬ l.length ≤ 27), Bool.and_false]; rfl⟩
        go_wp2
        go_ret
        exact ⟨by rw [HB4.out]; rfl, rfl⟩
      have HB4 : Kp (b = (!(l == dotL) && !(l == dotsL))) := ⟨by rw [HB3.out, decide_eq_true (by omega : 1 ≤ l.length), decide_eq_true (by omega : l.length ≤ 27)]; rfl⟩
      clear HB3
      by_cases h2 : l = [46]
      · have i2 : (l == [46]) = true := by simpa using h2
        rw [i2] at e2
        have HB5 : Kp (b = false) := ⟨by rw [HB4.out, show (l == dotL) = true from i2]; rfl⟩
        clear h2 HB4
        go_wp2
        go_ret
        exact ⟨by rw [HB5.out]; rfl, rfl⟩
      have i2 : (l == [46]) = false := by simpa using h2
      rw [i2] at e2
      by_cases h3 : l = [46, 46]
      · have i3 : (l == [46, 46]) = true := by simpa using h3
        rw [i3] at e3
        have HB5 : Kp (b = false) := ⟨by rw [HB4.out, show (l == dotsL) = true from i3, Bool.and_comm]; rfl⟩
        clear h3 HB4
        go_wp2
        go_ret
        exact ⟨by rw [HB5.out]; rfl, rfl⟩
      have i3 : (l == [46, 46]) = false := by simpa using h3
      rw [i3] at e3
      have HB5 : Kp (b = true) := ⟨by rw [HB4.out, show (l == dotL) = false from i2, show (l == dotsL) = false from i3]; rfl⟩
      clear h2 h3 HB4
      go_wp2
      go_ret
      exact ⟨by rw [HB5.out]; rfl, rfl⟩
end Go.Proofs.Ytaedlaeflliibaa
