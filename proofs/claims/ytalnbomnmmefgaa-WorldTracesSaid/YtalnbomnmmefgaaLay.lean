/- The contract of power's lay: bytes over the first of others, as many as there is power for. -/
import Derived.Test.YtalnbomnmmefgaaPow
import Derived.Deep.LoopGhost
namespace Go.Proofs.Ytalnbomnmmefgaa
open Go.RowKit

/-- how many of n things there is power for -/
def layK (t : Wd) (n : Nat) : Nat := if t.lim = true then min n t.left else n
/-- the power behind that -/
def layW (t : Wd) (n : Nat) : Wd := if t.lim = true then (if n ≤ t.left then { t with left := t.left - n } else { t with left := 0, lost := true }) else t
theorem layK_le (t : Wd) (n : Nat) : layK t n ≤ n := by unfold layK; split <;> omega
theorem layW_zero (t : Wd) : layW t 0 = t := by unfold layW; split <;> simp
theorem layK_zero (t : Wd) : layK t 0 = 0 := by unfold layK; split <;> simp
theorem lay_more (t : Wd) (n : Nat) (h : takeOk t = true) : layK t (n + 1) = layK (takeW t) n + 1 ∧ layW t (n + 1) = layW (takeW t) n := by
  unfold takeOk at h
  by_cases hl : t.lim = true
  · rw [hl] at h
    have h0 : 0 < t.left := by simpa using h
    have e : takeW t = { t with left := t.left - 1 } := by unfold takeW; rw [if_pos hl, if_neg (by omega)]
    rw [e]
    unfold layK layW
    simp only [hl, if_true]
    refine ⟨by omega, ?_⟩
    by_cases hn : n + 1 ≤ t.left
    · rw [if_pos hn, if_pos (by omega)]
      congr 1; omega
    · rw [if_neg hn, if_neg (by omega)]
  · have e : takeW t = t := by unfold takeW; rw [if_neg hl]
    rw [e]
    unfold layK layW
    simp [hl]
theorem lay_none (t : Wd) (n : Nat) (h : takeOk t = false) : layK t (n + 1) = 0 ∧ layW t (n + 1) = takeW t := by
  unfold takeOk at h
  by_cases hl : t.lim = true
  · rw [hl] at h
    have h0 : t.left = 0 := by simpa using h
    have e : takeW t = { t with lost := true } := by unfold takeW; rw [if_pos hl, if_pos h0]
    rw [e]
    unfold layK layW
    simp only [hl, if_true]
    refine ⟨by omega, ?_⟩
    rw [if_neg (by omega)]
    cases t; simp at h0; simp [h0]
  · simp [hl] at h
theorem takeW_left (t : Wd) (h : t.left ≤ 1000000) : (takeW t).left ≤ 1000000 := by
  unfold takeW
  split
  · split
    · exact h
    · simp; omega
  · exact h

/-- k laid, of l, over old -/
def laid (l old : List UInt8) (k : Nat) : List UInt8 := l.take k ++ old.drop k
theorem laid_zero (l old : List UInt8) : laid l old 0 = old := by simp [laid]
theorem laid_length (l old : List UInt8) (k : Nat) (h1 : k ≤ l.length) (h2 : k ≤ old.length) : (laid l old k).length = old.length := by simp [laid]; omega
theorem laid_set (l old : List UInt8) (k : Nat) (h1 : k < l.length) (h2 : k < old.length) : (cells8 (laid l old k)).set k (.int .u8 (l[k].toNat : Int)) = cells8 (laid l old (k + 1)) := by
  unfold laid
  have hl : (cells8 (l.take k)).length = k := by rw [cells8_length]; simp; omega
  rw [cells8_append, List.set_append_right _ _ (by omega), hl, Nat.sub_self, cells8_append, List.take_succ_eq_append_getElem h1, cells8_append]
  rw [List.drop_eq_getElem_cons h2]
  show _ ++ (Value.int .u8 (old[k].toNat : Int) :: cells8 (old.drop (k + 1))).set 0 _ = _
  rw [List.set_cons_zero, List.append_assoc]
  rfl

/-- nothing but the blocks b and g has turned -/
structure Two (b g : Nat) (w w' : World) : Prop where
  os : w'.os = w.os
  tape : w'.tape = w.tape
  output : w'.output = w.output
  size : w'.heap.size = w.heap.size
  block : ∀ k, k ≠ b → k ≠ g → w'.heap[k]? = w.heap[k]?
theorem Two.refl (b g : Nat) (w : World) : Two b g w w := ⟨rfl, rfl, rfl, rfl, fun _ _ _ => rfl⟩
theorem Two.first {b g : Nat} {w w' w2 : World} (h : Two b g w w') (h2 : Only b w' w2) : Two b g w w2 :=
  ⟨h2.os.trans h.os, h2.tape.trans h.tape, h2.output.trans h.output, h2.size.trans h.size, fun k h3 h4 => (h2.block k h3).trans (h.block k h3 h4)⟩
theorem Two.second {b g : Nat} {w w' w2 : World} (h : Two b g w w') (h2 : Only g w' w2) : Two b g w w2 :=
  ⟨h2.os.trans h.os, h2.tape.trans h.tape, h2.output.trans h.output, h2.size.trans h.size, fun k h3 h4 => (h2.block k h4).trans (h.block k h3 h4)⟩
/-- bytes that lie apart from both -/
structure BsT (w : World) (b g : Nat) (A : Option Addr) (n c : Nat) (l : List UInt8) : Prop where
  bs : Bs w w.heap.size A n c l
  apart : ∀ ad, A = some ad → 0 < n → ad.block ≠ b ∧ ad.block ≠ g
theorem BsT.two {b g : Nat} {w w' : World} {A : Option Addr} {n c : Nat} {l : List UInt8} (h : BsT w b g A n c l) (h2 : Two b g w w') : BsT w' b g A n c l := by
  refine ⟨⟨h.bs.len, h.bs.cap, h.bs.max, h.bs.nil, fun h0 => ?_⟩, h.apart⟩
  obtain ⟨k, o, hA, hb, hc⟩ := h.bs.cells h0
  obtain ⟨n1, n2⟩ := h.apart _ hA h0
  refine ⟨k, o, hA, by rw [h2.size]; exact hb, fun j hj => ?_⟩
  rw [← hc j hj]
  exact World.cell?_of_block (w := w) (h2.block k n1 n2)

set_option maxHeartbeats 1000000 in
theorem lay_any (b g : Nat) (hbg : b ≠ g) (ad : Ad) (t : Wd) (e : TypeId) (A : Option Addr) (n c N C : Nat) (l old : List UInt8) (w : World) (hb : Blk w b 75 (wdCells ad t)) (hp : t.left ≤ 1000000)
    (hg : Blk w g e (cells8 old)) (hN : old.length = N) (hl : BsT w b g A n c l) (hn : n ≤ N) (hN1 : N ≤ 4294967296) :
    Calls Try.prog 36 #[.pointer (some ⟨b, 4, none⟩), .slice (some ⟨g, 0, none⟩) N C, .slice A n c] w fun e' w' =>
      e' = .returned (.int .i64 (layK t n : Int)) ∧ Blk w' b 75 (wdCells ad (layW t n)) ∧ Blk w' g e (cells8 (laid l old (layK t n))) ∧ Two b g w w' := by
  have HB : Kp _ := ⟨hb⟩
  have HP : Kp _ := ⟨hp⟩
  have HG : Kp _ := ⟨hg⟩
  have HN : Kp _ := ⟨hN⟩
  have HL : Kp _ := ⟨hl⟩
  have HLn : Kp (l.length = n) := ⟨hl.bs.len⟩
  clear hb hp hg hN hl
  go_enter Try.func36, Try.ntmps36
  go_wp2
  go_step3
  go_wp2
  go_step3
  go_wp2
  go_loopg [7, 12] n (fun gk v7 v12 wr => ∃ i : Nat, i + gk = n ∧ v7 = .int .i64 i ∧ v12 = .int .i64 i ∧ Kp (∃ tr, Blk wr b 75 (wdCells ad tr) ∧ tr.left ≤ 1000000 ∧ layK t n = i + layK tr (n - i) ∧ layW t n = layW tr (n - i)) ∧ Kp (Blk wr g e (cells8 (laid l old i))) ∧ Kp (Two b g w wr))
  case atStart => exact ⟨0, by omega, rfl, rfl, ⟨t, HB.out, HP.out, by simp, by simp⟩, by rw [laid_zero]; exact HG, ⟨Two.refl _ _ _⟩⟩
  case round =>
    clear HB HG HP
    obtain ⟨i, hi, rfl, rfl, HT, HGr, HTw⟩ := hrel
    obtain ⟨tr, hbr, hpr, hk, hW⟩ := HT.out
    have HBr : Kp _ := ⟨hbr⟩
    have HPr : Kp _ := ⟨hpr⟩
    have HK : Kp _ := ⟨hk⟩
    have HW : Kp _ := ⟨hW⟩
    clear hbr hpr hk hW HT
    cases gk with
    | zero =>
      have hin : i = n := by omega
      have hlt : ¬ ((i : Int) < (n : Int)) := by omega
      have HE : Kp (layK t n = i ∧ layW t n = tr) := ⟨by
        have h1 := HK.out
        have h2 := HW.out
        rw [show n - i = 0 by omega, layK_zero] at h1
        rw [show n - i = 0 by omega, layW_zero] at h2
        exact ⟨h1, h2⟩⟩
      clear hin
      go_wp2
      go_ret
      refine ⟨?_, ?_, ?_, HTw.out⟩
      · rw [HE.out.1]; rfl
      · rw [HE.out.2]; exact HBr.out
      · rw [HE.out.1]; exact HGr.out
    | succ g2 =>
      have hlt : (i : Int) < (n : Int) := by omega
      have hln : i < l.length := by rw [HLn.out]; omega
      obtain ⟨bl, ol, rfl, hbl, hcl⟩ := (HL.out.two HTw.out).bs.cells (by omega)
      have hci := hcl i hln
      have hap := HL.out.apart _ rfl (by omega)
      have HAp : Kp (bl ≠ b ∧ bl ≠ g) := ⟨hap⟩
      have HLo : Kp (i < (laid l old i).length) := ⟨by rw [laid_length _ _ _ (by omega) (by rw [HN.out]; omega), HN.out]; omega⟩
      have HI : Kp (i < l.length) := ⟨hln⟩
      have HX : Kp _ := ⟨laid_set l old i hln (by rw [HN.out]; omega)⟩
      generalize l[i] = x at *
      clear hcl hap hln
      go_wp2_with fail
      refine (take_any b ad tr _ HBr.out HPr.out).mono ?_
      rintro e1 w1 ⟨rfl, hb1, ho1⟩
      have HB1 : Kp _ := ⟨hb1⟩
      have HG1 : Kp _ := ⟨HGr.out.only ho1 (fun e => hbg e.symm)⟩
      have HT1 : Kp _ := ⟨HTw.out.first ho1⟩
      have cg : ∃ z, w1.cell? ⟨g, i, none⟩ = some (.int .u8 z) := by
        rw [HG1.out.cell? i, cells8_at _ _ HLo.out]; exact ⟨_, rfl⟩
      obtain ⟨z, cg⟩ := cg
      have fg := HG1.out.frozen i
      clear hb1 ho1 HBr HGr HTw hci hbl
      by_cases hto : takeOk tr = true
      · have HM : Kp _ := ⟨lay_more tr (n - i - 1) hto⟩
        go_wp2
        go_roundg g2
        case measure => omega
        case rel =>
          have h1 := HM.out
          rw [show n - i - 1 + 1 = n - i by omega] at h1
          refine ⟨i + 1, by omega, by go_num, by go_num, ⟨takeW tr, ⟨(HB1.out.heap ▸ ?_)⟩, takeW_left _ HPr.out, ?_, ?_⟩, ⟨?_⟩, ⟨HT1.out.second (Only.setCell w1 ⟨g, i, none⟩ _)⟩⟩
          · exact Below.heap_setCell _ _ _ _ hbg
          · rw [HK.out, h1.1, show n - (i + 1) = n - i - 1 by omega]; omega
          · rw [HW.out, h1.2, show n - (i + 1) = n - i - 1 by omega]
          · have h2 := HG1.out.set i (.int .u8 (x.toNat : Int))
            rw [HX.out] at h2
            exact h2
      · have hto' : takeOk tr = false := by simpa using hto
        have HM : Kp _ := ⟨lay_none tr (n - i - 1) hto'⟩
        clear hto cg fg
        have HE : Kp (layK t n = i ∧ layW t n = takeW tr) := ⟨by
          have h1 := HM.out
          rw [show n - i - 1 + 1 = n - i by omega] at h1
          exact ⟨by rw [HK.out, h1.1]; omega, by rw [HW.out, h1.2]⟩⟩
        clear HM HK HW
        go_wp2
        rw [Exit.noGoto_ret]
        go_ret
        refine ⟨?_, ?_, ?_, HT1.out⟩
        · rw [HE.out.1]; rfl
        · rw [HE.out.2]; exact HB1.out
        · rw [HE.out.1]; exact HG1.out
end Go.Proofs.Ytalnbomnmmefgaa
