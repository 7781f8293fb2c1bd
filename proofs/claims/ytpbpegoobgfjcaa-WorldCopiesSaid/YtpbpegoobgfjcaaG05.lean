/- The contracts of World's Read and Look.
   The contract of power's lay: bytes over the first of others, as many as there is power for.
   The contract of codec's Pad.
   The contract of codec's Pad, with the row that it answers.
   The contract of World's Write. -/
import Derived.Test.YtpbpegoobgfjcaaG04
import Derived.Deep.LoopGhost
import Derived.Test.YtpbpegoobgfjcaaG02
import Derived.Test.YtpbpegoobgfjcaaG01
namespace Go.Proofs.Ytpbpegoobgfjcaa
open Go.RowKit

theorem contents_slice (g : Nat) (W : World) : (Instr.sliceAt 78 (.pointer (some ⟨g, 0, none⟩)) none none none).run Try.prog W = .ok (.slice (some ⟨g, 0, none⟩) 272 272) W := by
  have h1 : (Try.prog).underlying 78 = some (.array ((Try.prog).arrayLen 78) ((Try.prog).elem 78)) := by kernel_rfl
  have h2 : (Try.prog).arrayLen 78 = 272 := by kernel_rfl
  have h3 : (Try.prog).elem 78 = 5 := by kernel_rfl
  have h4 : ((Try.prog).info? 5).map (·.size) = some 1 := by kernel_rfl
  rw [run_sliceAt_array_all W _ ⟨g, 0, none⟩ h1, h2, h3]
  cases hq : (Try.prog).info? 5 with
  | none => simp [hq] at h4
  | some i =>
    have hs : i.size = 1 := by simpa [hq] using h4
    simp [Go.sizeOf, typeInfo, hq, hs, slicedAt, Addr.add]

/-- is there such a slot, and power? -/
def thereW (t : Wd) (x : Int × Int) : Bool := !t.lost && inR t.n x
def readW (t : Wd) (x : Int × Int) : Wd := if thereW t x = true then tellW t 1 x.1 x.2 (t.sl x) else t
def readL (t : Wd) (x : Int × Int) : List UInt8 := if thereW t x = true then toldL t (t.sl x) else []
section
variable {O M : Nat → Prop} {b : Nat} {ad : Ad} {t : Wd} {p : Int × Int → Option Nat} {L : List Hd4} {w : World}
theorem Parts.stayO (h : Parts w O M b ad t p L) : Parts w O (Or2 M O) b ad t p L :=
  h.chg (S := fun _ => False) (Chg.refl _ _) (fun _ h => h.elim) (fun _ h => h.elim) (fun k hk => .inl (hk.elim id (h.sub k))) (fun _ h => .inl h) (fun k hk => h.lt k (hk.elim id (h.sub k)))
theorem Parts.nx (h : Parts w O M b ad t p L) : Nx w O w O := Nx.refl O w (fun k hk => h.lt k (h.sub k hk))
theorem slot_there (h : Parts w O M b ad t p L) {x : Int × Int} (hx : thereW t x = true) : ∃ g, p x = some g ∧ slotV t p x = .pointer (some ⟨g, 0, none⟩) := by
  unfold thereW at hx
  rw [Bool.and_eq_true] at hx
  have h1 := h.slots.has x
  rw [hx.2] at h1
  obtain ⟨g, hg⟩ := Option.isSome_iff_exists.1 h1
  refine ⟨g, hg, ?_⟩
  unfold slotV
  rw [if_neg (by simpa using hx.1), hg]
  rfl
theorem slot_none (h : Parts w O M b ad t p L) {x : Int × Int} (hx : ¬ thereW t x = true) : slotV t p x = .pointer none := by
  unfold slotV
  split
  · rfl
  · rename_i hl
    have hl' : t.lost = false := by simpa using hl
    have h1 := h.slots.has x
    have h2 : inR t.n x = false := by
      unfold thereW at hx
      rw [hl'] at hx
      simpa using hx
    rw [h2] at h1
    cases hp : p x with
    | none => rfl
    | some g => rw [hp] at h1; cases h1
theorem slot_bs (h : Parts w O M b ad t p L) {x : Int × Int} {g : Nat} (hg : p x = some g) : Bs w w.heap.size (some ⟨g, 0, none⟩) 272 272 (t.sl x) := by
  have hl := h.slots.len x g hg
  refine (h.slots.blk x g hg).bytes (o := 0) (h.slots.blk x g hg).lt ?_ hl 272 (Nat.le_refl _) (by simp only [maxLen]; omega)
  rw [List.drop_zero, List.take_of_length_le (by rw [cells8_length, hl]; exact Nat.le_refl _)]

set_option maxRecDepth 100000 in
set_option maxHeartbeats 1000000 in
theorem read_any (h : Parts w O M b ad t p L) (x y : Int) (hx : okP (x, y)) (hlen : t.tr.length ≤ 1000000) (hr : t.reads ≤ 1000000) :
    Calls Try.prog 13 #[.pointer (some ⟨b, 0, none⟩), .int .i64 x, .int .i64 y] w fun e w' => ∃ A' n' c' ad' L' O', e = .returned (.slice A' n' c') ∧ Parts w' O' (Or2 M O') b ad' (readW t (x, y)) p L' ∧ Nx w O w' O' ∧ BsM w' (Or2 M O') A' n' c' (readL t (x, y)) := by
  have HP : Kp _ := ⟨h⟩
  have HX : Kp _ := ⟨hx⟩
  by_cases hth : thereW t (x, y) = true
  · obtain ⟨g, hg, hs⟩ := slot_there h hth
    have HG : Kp _ := ⟨hg⟩
    have HT : Kp (readW t (x, y) = tellW t 1 x y (t.sl (x, y)) ∧ readL t (x, y) = toldL t (t.sl (x, y))) := ⟨by unfold readW readL; rw [if_pos hth, if_pos hth]; exact ⟨rfl, rfl⟩⟩
    have hsl := contents_slice g w
    clear h hx hth hg
    go_enter Try.func13, Try.ntmps13
    go_wp2_with fail
    refine (slot_any HP.out x y HX.out).mono ?_
    rintro e w1 ⟨rfl, rfl⟩
    rw [hs]
    go_wp2_with fail
    refine (tell_any HP.out 1 x y (fun bs => ⟨.inl rfl, HX.out.1, HX.out.2⟩) (some ⟨g, 0, none⟩) 272 272 (t.sl (x, y)) (fun w' O' M' ad' t' L' hP hsl _ => hsl ▸ slot_bs hP HG.out) (by omega) hlen hr).mono ?_
    rintro e w2 ⟨A', n', c', ad', L', O', rfl, hP', hN', hB'⟩
    have HR : Kp _ := ⟨And.intro hP' (And.intro hN' hB')⟩
    clear hP' hN' hB'
    go_wp2
    go_ret
    rw [HT.out.1, HT.out.2]
    exact ⟨A', n', c', ad', L', O', rfl, HR.out⟩
  · have hs := slot_none h hth
    have HT : Kp (readW t (x, y) = t ∧ readL t (x, y) = []) := ⟨by unfold readW readL; rw [if_neg hth, if_neg hth]; exact ⟨rfl, rfl⟩⟩
    clear h hx hth
    go_enter Try.func13, Try.ntmps13
    go_wp2_with fail
    refine (slot_any HP.out x y HX.out).mono ?_
    rintro e w1 ⟨rfl, rfl⟩
    rw [hs]
    go_wp2
    go_ret
    rw [HT.out.1, HT.out.2]
    exact ⟨none, 0, 0, ad, L, O, rfl, HP.out.stayO, HP.out.nx, BsM.zero _ _⟩

/-- is there such a seal, and power? -/
def sealW (t : Wd) (i : Int) : Bool := !t.lost && (decide (0 ≤ i) && decide (i < 2))
def sealL (t : Wd) (i : Int) : List UInt8 := if i = 0 then t.s0 else t.s1
def lookW (t : Wd) (i : Int) : Wd := if sealW t i = true then tellW t 3 i 0 (sealL t i) else t
def lookL (t : Wd) (i : Int) : List UInt8 := if sealW t i = true then toldL t (sealL t i) else []
set_option maxRecDepth 100000 in
set_option maxHeartbeats 1000000 in
theorem look_any (h : Parts w O M b ad t p L) (i : Int) (hlen : t.tr.length ≤ 1000000) (hr : t.reads ≤ 1000000) :
    Calls Try.prog 30 #[.pointer (some ⟨b, 0, none⟩), .int .i64 i] w fun e w' => ∃ A' n' c' ad' L' O', e = .returned (.slice A' n' c') ∧ Parts w' O' (Or2 M O') b ad' (lookW t i) p L' ∧ Nx w O w' O' ∧ BsM w' (Or2 M O') A' n' c' (lookL t i) := by
  have HP : Kp _ := ⟨h⟩
  by_cases hth : sealW t i = true
  · have hth2 : (!t.lost && (decide (0 ≤ i) && decide (i < 2))) = true := hth
    have hi : i = 0 ∨ i = 1 := by
      simp only [Bool.and_eq_true, decide_eq_true_eq] at hth2
      omega
    obtain ⟨A0, n0, c0, hv0, hb0⟩ := h.seal0
    obtain ⟨A1, n1, c1, hv1, hb1⟩ := h.seal1
    have d1 : w.cell? ⟨b, 1, none⟩ = some (.slice A0 n0 c0) := by rw [h.blk.cell? 1, ← hv0]; rfl
    have d2 : w.cell? ⟨b, 2, none⟩ = some (.slice A1 n1 c1) := by rw [h.blk.cell? 2, ← hv1]; rfl
    have HB0 : Kp _ := ⟨hb0⟩
    have HB1 : Kp _ := ⟨hb1⟩
    have hs := hth2
    rcases hi with rfl | rfl
    · have HT : Kp (lookW t 0 = tellW t 3 0 0 t.s0 ∧ lookL t 0 = toldL t t.s0) := ⟨by unfold lookW lookL; rw [if_pos hth, if_pos hth]; exact ⟨rfl, rfl⟩⟩
      clear h hth hth2 hv0 hv1 hb0 hb1
      go_enter Try.func30, Try.ntmps30
      go_wp2_with fail
      refine (hasSeal_any b ad t w HP.out.blk 0).mono ?_
      rintro e w1 ⟨rfl, rfl⟩
      rw [hs]
      go_wp2_with fail
      refine (tell_any HP.out 3 0 0 (fun bs => ⟨.inr (.inr (.inl ⟨rfl, rfl⟩)), rfl, rfl⟩) A0 n0 c0 t.s0 (fun w' O' M' ad' t' L' _ _ hN => (HB0.out.nx HP.out.sub hN).bs) HB0.out.fit hlen hr).mono ?_
      rintro e w2 ⟨A', n', c', ad', L', O', rfl, hP', hN', hB'⟩
      have HR : Kp _ := ⟨And.intro hP' (And.intro hN' hB')⟩
      clear hP' hN' hB'
      go_wp2
      go_ret
      rw [HT.out.1, HT.out.2]
      exact ⟨A', n', c', ad', L', O', rfl, HR.out⟩
    · have HT : Kp (lookW t 1 = tellW t 3 1 0 t.s1 ∧ lookL t 1 = toldL t t.s1) := ⟨by unfold lookW lookL; rw [if_pos hth, if_pos hth]; exact ⟨rfl, rfl⟩⟩
      clear h hth hth2 hv0 hv1 hb0 hb1
      go_enter Try.func30, Try.ntmps30
      go_wp2_with fail
      refine (hasSeal_any b ad t w HP.out.blk 1).mono ?_
      rintro e w1 ⟨rfl, rfl⟩
      rw [hs]
      go_wp2_with fail
      refine (tell_any HP.out 3 1 0 (fun bs => ⟨.inr (.inr (.inl ⟨rfl, rfl⟩)), rfl, rfl⟩) A1 n1 c1 t.s1 (fun w' O' M' ad' t' L' _ _ hN => (HB1.out.nx HP.out.sub hN).bs) HB1.out.fit hlen hr).mono ?_
      rintro e w2 ⟨A', n', c', ad', L', O', rfl, hP', hN', hB'⟩
      have HR : Kp _ := ⟨And.intro hP' (And.intro hN' hB')⟩
      clear hP' hN' hB'
      go_wp2
      go_ret
      rw [HT.out.1, HT.out.2]
      exact ⟨A', n', c', ad', L', O', rfl, HR.out⟩
  · have hs : (!t.lost && (decide (0 ≤ i) && decide (i < 2))) = false := by
      have h1 := hth
      unfold sealW at h1
      simpa using h1
    have HT : Kp (lookW t i = t ∧ lookL t i = []) := ⟨by unfold lookW lookL; rw [if_neg hth, if_neg hth]; exact ⟨rfl, rfl⟩⟩
    clear h hth
    go_enter Try.func30, Try.ntmps30
    go_wp2_with fail
    refine (hasSeal_any b ad t w HP.out.blk i).mono ?_
    rintro e w1 ⟨rfl, rfl⟩
    rw [hs]
    go_wp2
    go_ret
    rw [HT.out.1, HT.out.2]
    exact ⟨none, 0, 0, ad, L, O, rfl, HP.out.stayO, HP.out.nx, BsM.zero _ _⟩
end
end Go.Proofs.Ytpbpegoobgfjcaa

namespace Go.Proofs.Ytpbpegoobgfjcaa
open Go.RowKit

/-- how many of n things there is power for -/
def layK (t : Wd) (n : Nat) : Nat := if t.lim = true then min n t.left else n
/-- the power behind that -/
def layW (t : Wd) (n : Nat) : Wd := if t.lim = true then (if n ≤ t.left then { t with left := t.left - n } else { t with left := 0, lost := true }) else t
theorem layK_le (t : Wd) (n : Nat) : layK t n ≤ n := by unfold layK; split <;> omega
theorem layW_zero (t : Wd) : layW t 0 = t := by unfold layW; split <;> simp
theorem layK_zero (t : Wd) : layK t 0 = 0 := by unfold layK; split <;> simp
theorem lay_more (t : Wd) (n : Nat) (h : takeOk t = true) : layK t (n + 1) = layK (takeW t) n + 1 ∧ layW t (n + 1) = layW (takeW t) n := by
  unfold takeOk at h
  by_cases hl : t.lim = true
  · rw [hl] at h
    have h0 : 0 < t.left := by simpa using h
    have e : takeW t = { t with left := t.left - 1 } := by unfold takeW; rw [if_pos hl, if_neg (by omega)]
    rw [e]
    unfold layK layW
    simp only [hl, if_true]
    refine ⟨by omega, ?_⟩
    by_cases hn : n + 1 ≤ t.left
    · rw [if_pos hn, if_pos (by omega)]
      congr 1; omega
    · rw [if_neg hn, if_neg (by omega)]
  · have e : takeW t = t := by unfold takeW; rw [if_neg hl]
    rw [e]
    unfold layK layW
    simp [hl]
theorem lay_none (t : Wd) (n : Nat) (h : takeOk t = false) : layK t (n + 1) = 0 ∧ layW t (n + 1) = takeW t := by
  unfold takeOk at h
  by_cases hl : t.lim = true
  · rw [hl] at h
    have h0 : t.left = 0 := by simpa using h
    have e : takeW t = { t with lost := true } := by unfold takeW; rw [if_pos hl, if_pos h0]
    rw [e]
    unfold layK layW
    simp only [hl, if_true]
    refine ⟨by omega, ?_⟩
    rw [if_neg (by omega)]
    cases t; simp at h0; simp [h0]
  · simp [hl] at h
theorem takeW_left (t : Wd) (h : t.left ≤ 1000000) : (takeW t).left ≤ 1000000 := by
  unfold takeW
  split
  · split
    · exact h
    · simp; omega
  · exact h

/-- k laid, of l, over old -/
def laid (l old : List UInt8) (k : Nat) : List UInt8 := l.take k ++ old.drop k
theorem laid_zero (l old : List UInt8) : laid l old 0 = old := by simp [laid]
theorem laid_length (l old : List UInt8) (k : Nat) (h1 : k ≤ l.length) (h2 : k ≤ old.length) : (laid l old k).length = old.length := by simp [laid]; omega
theorem laid_set (l old : List UInt8) (k : Nat) (h1 : k < l.length) (h2 : k < old.length) : (cells8 (laid l old k)).set k (.int .u8 (l[k].toNat : Int)) = cells8 (laid l old (k + 1)) := by
  unfold laid
  have hl : (cells8 (l.take k)).length = k := by rw [cells8_length]; simp; omega
  rw [cells8_append, List.set_append_right _ _ (by omega), hl, Nat.sub_self, cells8_append, List.take_succ_eq_append_getElem h1, cells8_append]
  rw [List.drop_eq_getElem_cons h2]
  show _ ++ (Value.int .u8 (old[k].toNat : Int) :: cells8 (old.drop (k + 1))).set 0 _ = _
  rw [List.set_cons_zero, List.append_assoc]
  rfl

/-- nothing but the blocks b and g has turned -/
structure Two (b g : Nat) (w w' : World) : Prop where
  os : w'.os = w.os
  tape : w'.tape = w.tape
  output : w'.output = w.output
  size : w'.heap.size = w.heap.size
  block : ∀ k, k ≠ b → k ≠ g → w'.heap[k]? = w.heap[k]?
theorem Two.refl (b g : Nat) (w : World) : Two b g w w := ⟨rfl, rfl, rfl, rfl, fun _ _ _ => rfl⟩
theorem Two.first {b g : Nat} {w w' w2 : World} (h : Two b g w w') (h2 : Only b w' w2) : Two b g w w2 :=
  ⟨h2.os.trans h.os, h2.tape.trans h.tape, h2.output.trans h.output, h2.size.trans h.size, fun k h3 h4 => (h2.block k h3).trans (h.block k h3 h4)⟩
theorem Two.second {b g : Nat} {w w' w2 : World} (h : Two b g w w') (h2 : Only g w' w2) : Two b g w w2 :=
  ⟨h2.os.trans h.os, h2.tape.trans h.tape, h2.output.trans h.output, h2.size.trans h.size, fun k h3 h4 => (h2.block k h4).trans (h.block k h3 h4)⟩
/-- bytes that lie apart from both -/
structure BsT (w : World) (b g : Nat) (A : Option Addr) (n c : Nat) (l : List UInt8) : Prop where
  bs : Bs w w.heap.size A n c l
  apart : ∀ ad, A = some ad → 0 < n → ad.block ≠ b ∧ ad.block ≠ g
theorem BsT.two {b g : Nat} {w w' : World} {A : Option Addr} {n c : Nat} {l : List UInt8} (h : BsT w b g A n c l) (h2 : Two b g w w') : BsT w' b g A n c l := by
  refine ⟨⟨h.bs.len, h.bs.cap, h.bs.max, h.bs.nil, fun h0 => ?_⟩, h.apart⟩
  obtain ⟨k, o, hA, hb, hc⟩ := h.bs.cells h0
  obtain ⟨n1, n2⟩ := h.apart _ hA h0
  refine ⟨k, o, hA, by rw [h2.size]; exact hb, fun j hj => ?_⟩
  rw [← hc j hj]
  exact World.cell?_of_block (w := w) (h2.block k n1 n2)

set_option maxHeartbeats 1000000 in
theorem lay_any (b g : Nat) (hbg : b ≠ g) (ad : Ad) (t : Wd) (e : TypeId) (A : Option Addr) (n c N C : Nat) (l old : List UInt8) (w : World) (hb : Blk w b 75 (wdCells ad t)) (hp : t.left ≤ 1000000)
    (hg : Blk w g e (cells8 old)) (hN : old.length = N) (hl : BsT w b g A n c l) (hn : n ≤ N) (hN1 : N ≤ 4294967296) :
    Calls Try.prog 36 #[.pointer (some ⟨b, 4, none⟩), .slice (some ⟨g, 0, none⟩) N C, .slice A n c] w fun e' w' =>
      e' = .returned (.int .i64 (layK t n : Int)) ∧ Blk w' b 75 (wdCells ad (layW t n)) ∧ Blk w' g e (cells8 (laid l old (layK t n))) ∧ Two b g w w' := by
  have HB : Kp _ := ⟨hb⟩
  have HP : Kp _ := ⟨hp⟩
  have HG : Kp _ := ⟨hg⟩
  have HN : Kp _ := ⟨hN⟩
  have HL : Kp _ := ⟨hl⟩
  have HLn : Kp (l.length = n) := ⟨hl.bs.len⟩
  clear hb hp hg hN hl
  go_enter Try.func36, Try.ntmps36
  go_wp2
  go_step3
  go_wp2
  go_step3
  go_wp2
  go_loopg [7, 12] n (fun gk v7 v12 wr => ∃ i : Nat, i + gk = n ∧ v7 = .int .i64 i ∧ v12 = .int .i64 i ∧ Kp (∃ tr, Blk wr b 75 (wdCells ad tr) ∧ tr.left ≤ 1000000 ∧ layK t n = i + layK tr (n - i) ∧ layW t n = layW tr (n - i)) ∧ Kp (Blk wr g e (cells8 (laid l old i))) ∧ Kp (Two b g w wr))
  case atStart => exact ⟨0, by omega, rfl, rfl, ⟨t, HB.out, HP.out, by simp, by simp⟩, by rw [laid_zero]; exact HG, ⟨Two.refl _ _ _⟩⟩
  case round =>
    clear HB HG HP
    obtain ⟨i, hi, rfl, rfl, HT, HGr, HTw⟩ := hrel
    obtain ⟨tr, hbr, hpr, hk, hW⟩ := HT.out
    have HBr : Kp _ := ⟨hbr⟩
    have HPr : Kp _ := ⟨hpr⟩
    have HK : Kp _ := ⟨hk⟩
    have HW : Kp _ := ⟨hW⟩
    clear hbr hpr hk hW HT
    cases gk with
    | zero =>
      have hin : i = n := by omega
      have hlt : ¬ ((i : Int) < (n : Int)) := by omega
      have HE : Kp (layK t n = i ∧ layW t n = tr) := ⟨by
        have h1 := HK.out
        have h2 := HW.out
        rw [show n - i = 0 by omega, layK_zero] at h1
        rw [show n - i = 0 by omega, layW_zero] at h2
        exact ⟨h1, h2⟩⟩
      clear hin
      go_wp2
      go_ret
      refine ⟨?_, ?_, ?_, HTw.out⟩
      · rw [HE.out.1]; rfl
      · rw [HE.out.2]; exact HBr.out
      · rw [HE.out.1]; exact HGr.out
    | succ g2 =>
      have hlt : (i : Int) < (n : Int) := by omega
      have hln : i < l.length := by rw [HLn.out]; omega
      obtain ⟨bl, ol, rfl, hbl, hcl⟩ := (HL.out.two HTw.out).bs.cells (by omega)
      have hci := hcl i hln
      have hap := HL.out.apart _ rfl (by omega)
      have HAp : Kp (bl ≠ b ∧ bl ≠ g) := ⟨hap⟩
      have HLo : Kp (i < (laid l old i).length) := ⟨by rw [laid_length _ _ _ (by omega) (by rw [HN.out]; omega), HN.out]; omega⟩
      have HI : Kp (i < l.length) := ⟨hln⟩
      have HX : Kp _ := ⟨laid_set l old i hln (by rw [HN.out]; omega)⟩
      generalize l[i] = x at *
      clear hcl hap hln
      go_wp2_with fail
      refine (take_any b ad tr _ HBr.out HPr.out).mono ?_
      rintro e1 w1 ⟨rfl, hb1, ho1⟩
      have HB1 : Kp _ := ⟨hb1⟩
      have HG1 : Kp _ := ⟨HGr.out.only ho1 (fun e => hbg e.symm)⟩
      have HT1 : Kp _ := ⟨HTw.out.first ho1⟩
      have cg : ∃ z, w1.cell? ⟨g, i, none⟩ = some (.int .u8 z) := by
        rw [HG1.out.cell? i, cells8_at _ _ HLo.out]; exact ⟨_, rfl⟩
      obtain ⟨z, cg⟩ := cg
      have fg := HG1.out.frozen i
      clear hb1 ho1 HBr HGr HTw hci hbl
      by_cases hto : takeOk tr = true
      · have HM : Kp _ := ⟨lay_more tr (n - i - 1) hto⟩
        go_wp2
        go_roundg g2
        case measure => omega
        case rel =>
          have h1 := HM.out
          rw [show n - i - 1 + 1 = n - i by omega] at h1
          refine ⟨i + 1, by omega, by go_num, by go_num, ⟨takeW tr, ⟨(HB1.out.heap ▸ ?_)⟩, takeW_left _ HPr.out, ?_, ?_⟩, ⟨?_⟩, ⟨HT1.out.second (Only.setCell w1 ⟨g, i, none⟩ _)⟩⟩
          · exact Below.heap_setCell _ _ _ _ hbg
          · rw [HK.out, h1.1, show n - (i + 1) = n - i - 1 by omega]; omega
          · rw [HW.out, h1.2, show n - (i + 1) = n - i - 1 by omega]
          · have h2 := HG1.out.set i (.int .u8 (x.toNat : Int))
            rw [HX.out] at h2
            exact h2
      · have hto' : takeOk tr = false := by simpa using hto
        have HM : Kp _ := ⟨lay_none tr (n - i - 1) hto'⟩
        clear hto cg fg
        have HE : Kp (layK t n = i ∧ layW t n = takeW tr) := ⟨by
          have h1 := HM.out
          rw [show n - i - 1 + 1 = n - i by omega] at h1
          exact ⟨by rw [HK.out, h1.1]; omega, by rw [HW.out, h1.2]⟩⟩
        clear HM HK HW
        go_wp2
        rw [Exit.noGoto_ret]
        go_ret
        refine ⟨?_, ?_, ?_, HT1.out⟩
        · rw [HE.out.1]; rfl
        · rw [HE.out.2]; exact HB1.out
        · rw [HE.out.1]; exact HG1.out
end Go.Proofs.Ytpbpegoobgfjcaa

namespace Go.Proofs.Ytpbpegoobgfjcaa
open Go.RowKit

def padL (xs : List UInt8) (wide : Int) : List UInt8 := xs ++ List.replicate (wide.toNat - xs.length) 0
theorem padL_length (xs : List UInt8) (wide : Int) : (padL xs wide).length = max xs.length wide.toNat := by simp [padL]; omega

set_option maxHeartbeats 400000 in
theorem pad_any (A : Option Addr) (n c : Nat) (wide : Int) (xs : List UInt8) (w : World) (ha : Bs w w.heap.size A n c xs) (hn : n ≤ 4294967296) (hw : wide ≤ 4294967296) :
    Calls Try.prog 35 #[.slice A n c, .int .i64 wide] w fun e w' => ∃ v, e = .returned v ∧ w'.ownsRow w.heap.size 5 1 v (padL xs wide).length (cells8 (padL xs wide)) ∧ Below w.heap.size w w' := by
  obtain ⟨N, hN⟩ : ∃ N : Nat, N = max n wide.toNat := ⟨_, rfl⟩
  have HNN := Lib.hid hN
  have HL := Lib.hid ha.len
  have hN1 : N ≤ 4294967296 := by omega
  clear hN
  go_enter Try.func35, Try.ntmps35
  rcases (by omega : (n : Int) < wide ∨ wide ≤ (n : Int)) with h | h
  all_goals
    go_wp2_with (with_reducible refine wpList_mk (o := ⟨some 10, _, _, _, _, _⟩) el8 rfl _ _ rfl w.heap.size _ _ _ _ N rfl rfl (by have := HNN.out; omega) (by have := HNN.out; omega) (by omega) (by simp only [maxLen]; omega) (Nat.le_refl _) ?_)
    intro w1 hown hg
    have hb1 : Below w.heap.size w w1 := (Below.refl _ _).grown hg (Nat.le_refl _) (by simp)
    have H1 := Lib.hid hown
    have ha1 := ha.below hb1
    clear hg hown
    go_wp2_with (with_reducible refine wpList_copyBs (o := ⟨some 13, _, _, _, _, _⟩) el8 rfl _ _ rfl w.heap.size _ _ _ rfl H1.out rfl ha1 ?_)
    intro w2 H2 hb2 _
    have H3 : Hid (w2.ownsRow w.heap.size 5 1 (.slice (some ⟨w.heap.size, 0, none⟩) N N) (padL xs wide).length (cells8 (padL xs wide))) := by
      have h2 := H2.out
      have e1 : (padL xs wide).length = N := by rw [padL_length, HL.out, HNN.out]
      have e2 : cells8 (xs.take N) ++ List.replicate (N - n) (Value.int .u8 0) = cells8 (padL xs wide) := by
        rw [List.take_of_length_le (by rw [HL.out, HNN.out]; omega), padL, cells8_append, HL.out]
        simp [cells8]
        have := HNN.out
        omega
      rw [e2] at h2
      rw [e1]
      exact h2
    clear H1 H2
    go_wp2
    go_ret
    exact ⟨_, rfl, H3.out, hb1.trans hb2⟩

end Go.Proofs.Ytpbpegoobgfjcaa

namespace Go.Proofs.Ytpbpegoobgfjcaa
open Go.RowKit

set_option maxHeartbeats 400000 in
theorem pad6_any (A : Option Addr) (n c : Nat) (wide : Int) (xs : List UInt8) (w : World) (ha : Bs w w.heap.size A n c xs) (hn : n ≤ 4294967296) (hw : wide ≤ 4294967296) :
    Calls Try.prog 35 #[.slice A n c, .int .i64 wide] w fun e w' => e = .returned (.slice (some ⟨w.heap.size, 0, none⟩) (padL xs wide).length (padL xs wide).length) ∧ Blk w' w.heap.size 5 (cells8 (padL xs wide)) ∧ Below w.heap.size w w' := by
  obtain ⟨N, hN⟩ : ∃ N : Nat, N = max n wide.toNat := ⟨_, rfl⟩
  have HNN := Lib.hid hN
  have HL := Lib.hid ha.len
  have hN1 : N ≤ 4294967296 := by omega
  clear hN
  go_enter Try.func35, Try.ntmps35
  rcases (by omega : (n : Int) < wide ∨ wide ≤ (n : Int)) with h | h
  all_goals
    go_wp2_with (with_reducible refine wpList_mk (o := ⟨some 10, _, _, _, _, _⟩) el8 rfl _ _ rfl w.heap.size _ _ _ _ N rfl rfl (by have := HNN.out; omega) (by have := HNN.out; omega) (by omega) (by simp only [maxLen]; omega) (Nat.le_refl _) ?_)
    intro w1 hown hg
    have hb1 : Below w.heap.size w w1 := (Below.refl _ _).grown hg (Nat.le_refl _) (by simp)
    have H1 := Lib.hid hown
    have ha1 := ha.below hb1
    clear hg hown
    go_wp2_with (with_reducible refine wpList_copyBs (o := ⟨some 13, _, _, _, _, _⟩) el8 rfl _ _ rfl w.heap.size _ _ _ rfl H1.out rfl ha1 ?_)
    intro w2 H2 hb2 _
    have e1 : (padL xs wide).length = N := by rw [padL_length, HL.out, HNN.out]
    have H3 : Hid (w2.ownsRow w.heap.size 5 1 (.slice (some ⟨w.heap.size, 0, none⟩) N N) N (cells8 (padL xs wide))) := by
      have h2 := H2.out
      have e2 : cells8 (xs.take N) ++ List.replicate (N - n) (Value.int .u8 0) = cells8 (padL xs wide) := by
        rw [List.take_of_length_le (by rw [HL.out, HNN.out]; omega), padL, cells8_append, HL.out]
        simp [cells8]
        have := HNN.out
        omega
      rw [e2] at h2
      exact h2
    have HE := Lib.hid e1
    clear H1 H2 e1
    go_wp2
    go_ret
    refine ⟨?_, ⟨(own_full H3.out).1⟩, hb1.trans hb2⟩
    rw [HE.out]; rfl
end Go.Proofs.Ytpbpegoobgfjcaa

namespace Go.Proofs.Ytpbpegoobgfjcaa
open Go.RowKit

/-- what a slot has, written -/
def wroteL (t : Wd) (x : Int × Int) (l : List UInt8) : List UInt8 := laid (padL (l.take 272) 272) (t.sl x) (layK t 272)
def writeW (t : Wd) (x : Int × Int) (l : List UInt8) : Wd :=
  if thereW t x = true then { layW { t with tr := t.tr ++ [⟨2, x.1, x.2, l⟩] } 272 with sl := fun y => if y = x then wroteL t x l else t.sl y } else t
def writeB (t : Wd) (x : Int × Int) : Bool := thereW t x && decide (layK t 272 = 272)
theorem int_beq (a b : Nat) : ((a : Int) == (b : Int)) = decide (a = b) := by
  rw [Bool.eq_iff_iff]
  simp only [beq_iff_eq, decide_eq_true_eq]
  omega
theorem pad272 (l : List UInt8) : (padL (l.take 272) 272).length = 272 := by rw [padL_length]; simp; omega
section
variable {O M : Nat → Prop} {b : Nat} {ad : Ad} {t : Wd} {p : Int × Int → Option Nat} {L : List Hd4} {w w' : World}
/-- a slot is written, and power taken -/
theorem wrote_parts (h : Parts w O M b ad t p L) {x : Int × Int} {g : Nat} (hg : p x = some g) (h2 : Two b g w w') {n : Nat} {new : List UInt8} (hb : Blk w' b 75 (wdCells ad (layW t n))) (hk : Blk w' g 78 (cells8 new)) (hl : new.length = 272) :
    Parts w' O M b ad { layW t n with sl := fun y => if y = x then new else t.sl y } p L ∧ Nx w O w' O := by
  have hOg := h.slots.own x g hg
  have C : Chg O w w' := ⟨h2.os, h2.tape, h2.output, by rw [h2.size]; exact Nat.le_refl _, fun k _ hn => h2.block k (fun e => hn (e ▸ h.ob)) (fun e => hn (e ▸ hOg))⟩
  have hlt := fun k hk => h.lt k (h.sub k hk)
  have gr := (h.slots.blk x g hg).row
  have e1 : (layW t n).n = t.n ∧ (layW t n).s0 = t.s0 ∧ (layW t n).s1 = t.s1 ∧ (layW t n).lies = t.lies ∧ (layW t n).nl = t.nl ∧ (layW t n).tr = t.tr ∧ (layW t n).ctr = t.ctr ∧ (layW t n).reads = t.reads ∧ (layW t n).left ≤ 1000000 := by
    have hp := h.pow
    unfold layW
    split
    · split
      · refine ⟨rfl, rfl, rfl, rfl, rfl, rfl, rfl, rfl, ?_⟩
        simp only
        omega
      · exact ⟨rfl, rfl, rfl, rfl, rfl, rfl, rfl, rfl, by simp⟩
    · exact ⟨rfl, rfl, rfl, rfl, rfl, rfl, rfl, rfl, hp⟩
  obtain ⟨q1, q2, q3, q4, q5, q6, q7, q8, q9⟩ := e1
  refine ⟨⟨h.sub, fun k hk => Nat.lt_of_lt_of_le (h.lt k hk) C.size, h.ob, hb, ?_, ?_, ?_, ?_, ?_, by show (layW t n).n ≤ _; rw [q1]; exact h.big, q9, by show (layW t n).ctr < _; rw [q7]; exact h.num, by show (layW t n).reads ≤ _; rw [q8]; exact h.read, h.two⟩, Nx.same C hlt⟩
  · show Sl w' O ad.ms (layW t n).n _ p
    rw [q1]
    have hms : w'.heap[ad.ms]? = w.heap[ad.ms]? := h2.block _ (fun e => (show IsMapB w ad.ms from h.slots.map.heap).ne h.blk.row e) (fun e => (show IsMapB w ad.ms from h.slots.map.heap).ne gr e)
    refine ⟨h.slots.om, h.slots.map.stay hms, h.slots.has, h.slots.own, fun y k hy => ?_, fun y k hy => ?_, h.slots.inj⟩
    · by_cases hyx : y = x
      · subst hyx
        rw [hg] at hy
        obtain rfl := Option.some.inj hy
        simp only [if_true]
        exact hk
      · simp only [if_neg hyx]
        have hkg : k ≠ g := fun e => hyx (h.slots.inj y x k hy (e ▸ hg))
        exact ⟨(h2.block k ((h.slots.blk y k hy).row.ne h.blk.row (by decide)) hkg).trans (h.slots.blk y k hy).heap⟩
    · by_cases hyx : y = x
      · simp only [if_pos hyx]; exact hl
      · simp only [if_neg hyx]; exact h.slots.len y k hy
  · show Li w' O M ad.ml (layW t n).lies (layW t n).nl
    rw [q4, q5]
    exact h.lies.stay (fun _ h => h) (fun k _ hkk => h2.block k (hkk.ne h.blk.row) (hkk.ne gr)) C h.sub (fun _ h => .inl h)
  · show BsV w' M ad.v0 (layW t n).s0
    rw [q2]; exact h.seal0.chg C h.sub (fun _ h => .inl h)
  · show BsV w' M ad.v1 (layW t n).s1
    rw [q3]; exact h.seal1.chg C h.sub (fun _ h => .inl h)
  · show Tc w' O M ad.vt (layW t n).tr L
    rw [q6]
    exact h.trace.stay (fun _ h => h) (fun k _ hkk => h2.block k (hkk.ne h.blk.row (by decide)) (hkk.ne gr (by decide))) C h.sub (fun _ h => .inl h)

set_option maxRecDepth 100000 in
set_option maxHeartbeats 1000000 in
theorem write_any (h : Parts w O M b ad t p L) (x y : Int) (hx : okP (x, y)) (A : Option Addr) (n c : Nat) (l : List UInt8) (ha : BsM w M A n c l) (hlen : t.tr.length ≤ 1000000) :
    Calls Try.prog 12 #[.pointer (some ⟨b, 0, none⟩), .int .i64 x, .int .i64 y, .slice A n c] w fun e w' => ∃ ad' L' O', e = .returned (.bool (writeB t (x, y))) ∧ Parts w' O' (Or2 M O') b ad' (writeW t (x, y) l) p L' ∧ Nx w O w' O' := by
  have HP : Kp _ := ⟨h⟩
  have HX : Kp _ := ⟨hx⟩
  have HA : Kp _ := ⟨ha⟩
  have hn := ha.fit
  by_cases hth : thereW t (x, y) = true
  · obtain ⟨g, hg, hs⟩ := slot_there h hth
    have HG : Kp _ := ⟨hg⟩
    have HT : Kp (writeW t (x, y) l = { layW { t with tr := t.tr ++ [⟨2, x, y, l⟩] } 272 with sl := fun z => if z = (x, y) then wroteL t (x, y) l else t.sl z } ∧ writeB t (x, y) = decide (layK t 272 = 272)) := ⟨by unfold writeW writeB; rw [if_pos hth, hth]; exact ⟨rfl, rfl⟩⟩
    clear h hx ha hth hg
    go_enter Try.func12, Try.ntmps12
    go_wp2_with fail
    refine (slot_any HP.out x y HX.out).mono ?_
    rintro e w1 ⟨rfl, rfl⟩
    rw [hs]
    go_wp2_with fail
    refine (note_any HP.out ⟨2, x, y, l⟩ ⟨.inr (.inl rfl), HX.out.1, HX.out.2⟩ A n c HA.out.bs hn hlen).mono ?_
    rintro e w2 ⟨rfl, ad2, L2, O2, P2, N2⟩
    have HP2 : Kp _ := ⟨P2⟩
    have HA2 : Kp _ := ⟨HA.out.nx HP.out.sub N2⟩
    have HN2 : Kp _ := ⟨N2⟩
    obtain ⟨k, hk⟩ : ∃ k, k = min n 272 := ⟨_, rfl⟩
    have hkn : k ≤ n := by omega
    have HTk : Kp (l.take k = l.take 272) := ⟨by
      have hl := HA.out.bs.len
      rcases Nat.le_total n 272 with h1 | h1
      · rw [List.take_of_length_le (by omega), List.take_of_length_le (by omega)]
      · rw [hk, Nat.min_eq_right h1]⟩
    have HK : Kp _ := ⟨hk⟩
    have HCut : Kp _ := ⟨(HA2.out.cutH hkn)⟩
    clear P2 N2 hk
    rcases (by have := HK.out; omega : ((n : Int) ≤ 272 ∧ k = n) ∨ (272 < (n : Int) ∧ k = 272)) with ⟨hc, hkk⟩ | ⟨hc, hkk⟩
    · have HKK : Kp _ := ⟨hkk⟩
      clear hkk
      go_wp2_with (with_reducible refine wpList_cut_h (o := ⟨some 26, _, _, _, _, _⟩) el8 rfl (.tmp 22) (.tmp 25) rfl rfl HA2.out.bs .i64 _ k rfl (by have := HKK.out; omega) hkn ?_)
      intro A3 hb3
      have HB3 : Kp _ := ⟨hb3⟩
      clear hb3 hc HKK
      go_wp2_with fail
      refine (pad6_any A3 k c 272 (l.take k) w2 HB3.out (by omega) (by omega)).mono ?_
      rw [HTk.out, pad272 l]
      rintro e w3 ⟨rfl, hk3, hb3⟩
      have P3 := HP2.out.below hb3
      have HP3 : Kp _ := ⟨P3⟩
      have HN3 : Kp _ := ⟨HN2.out.below hb3⟩
      have HK3 : Kp _ := ⟨hk3⟩
      have hbg : b ≠ g := P3.blk.row.ne (P3.slots.blk _ g HG.out).row (by decide)
      have hblt : b < w2.heap.size := HP2.out.blk.lt
      have hglt : g < w2.heap.size := (HP2.out.slots.blk _ g HG.out).lt
      have HTs : Kp (BsT w3 b g (some ⟨w2.heap.size, 0, none⟩) 272 272 (padL (l.take 272) 272)) := ⟨⟨hk3.bytes (o := 0) hk3.lt (by rw [List.drop_zero, List.take_of_length_le (by rw [cells8_length, pad272]; exact Nat.le_refl _)]) (pad272 l) 272 (Nat.le_refl _) (by simp only [maxLen]; omega), fun ad hA _ => by
        obtain rfl := Option.some.inj hA
        exact ⟨by simp; omega, by simp; omega⟩⟩⟩
      have HD3 : Kp (Blk w3.drew b 75 (wdCells ad2 { t with tr := t.tr ++ [⟨2, x, y, l⟩] }) ∧ Blk w3.drew g 78 (cells8 (t.sl (x, y))) ∧ BsT w3.drew b g (some ⟨w2.heap.size, 0, none⟩) 272 272 (padL (l.take 272) 272)) := ⟨P3.blk.drew, (P3.slots.blk _ g HG.out).drew, ⟨HTs.out.bs.drew, HTs.out.apart⟩⟩
      have HL3 : Kp ((t.sl (x, y)).length = 272) := ⟨P3.slots.len _ g HG.out⟩
      have HPd : Kp _ := ⟨P3.below (Below.refl w3.heap.size w3).drew⟩
      have HNd : Kp _ := ⟨HN3.out.below (Below.refl w3.heap.size w3).drew⟩
      have hsl := contents_slice g
      clear P3 hb3 hk3 HK3 HTs HP3 HN3
      go_wp2_with fail
      refine wp_region_any (by kernel_rfl) ?_
      change wpAny _ _ _ _ _ _ _ w3.drew
      generalize w3.drew = wS at *
      refine wpAny_take (i := 0) (oi := ⟨some 28, _, _, _, _, _⟩) (v := ?_) rfl (by kernel_rfl) (by kernel_rfl) (by kernel_rfl) (fun _ _ _ h => h) (Or.inl ⟨by rfl, by intro w; go_simp; try rfl⟩) ?_
      try simp only [Act.put, List.setIfInBounds_toArray, List.set_cons_zero, List.set_cons_succ]
      refine wpAny_take (i := 1) (oi := ⟨some 29, _, _, _, _, _⟩) (v := ?_) rfl (by kernel_rfl) (by kernel_rfl) (by kernel_rfl) (fun _ _ _ h => h) (Or.inl ⟨by rfl, by intro w; go_simp; try rfl⟩) ?_
      try simp only [Act.put, List.setIfInBounds_toArray, List.set_cons_zero, List.set_cons_succ]
      refine wpAny_take (i := 2) (oi := ⟨some 30, _, _, _, _, _⟩) (v := ?_) rfl (by kernel_rfl) (by kernel_rfl) (by kernel_rfl) (fun _ _ _ h => h) (Or.inl ⟨by rfl, by intro w; go_simp; try rfl⟩) ?_
      try simp only [Act.put, List.setIfInBounds_toArray, List.set_cons_zero, List.set_cons_succ]
      refine wpAny_take (i := 3) (oi := ⟨some 31, _, _, _, _, _⟩) (v := ?_) rfl (by kernel_rfl) (by kernel_rfl) (by kernel_rfl) (fun _ _ _ h => h) (Or.inl ⟨by rfl, by intro w; go_simp; try rfl⟩) ?_
      try simp only [Act.put, List.setIfInBounds_toArray, List.set_cons_zero, List.set_cons_succ]
      refine wpAny_take (i := 4) (oi := ⟨some 32, _, _, _, _, _⟩) (v := ?_) rfl (by kernel_rfl) (by kernel_rfl) (by kernel_rfl) (fun _ _ _ h => h) (Or.inl ⟨by rfl, by intro w; go_simp; try rfl⟩) ?_
      try simp only [Act.put, List.setIfInBounds_toArray, List.set_cons_zero, List.set_cons_succ]
      refine wpAny_take (i := 5) (oi := ⟨some 33, _, _, _, _, _⟩) (v := ?_) rfl (by kernel_rfl) (by kernel_rfl) (by kernel_rfl) (fun _ _ _ h => h) (Or.inl ⟨by rfl, by intro w; go_simp; try rfl⟩) ?_
      try simp only [Act.put, List.setIfInBounds_toArray, List.set_cons_zero, List.set_cons_succ]
      refine wpAny_take (i := 6) (oi := ⟨some 34, _, _, _, _, _⟩) (v := ?_) rfl (by kernel_rfl) (by kernel_rfl) (by kernel_rfl) (fun _ _ _ h => h) (Or.inl ⟨by rfl, by intro w; go_simp; try rfl⟩) ?_
      try simp only [Act.put, List.setIfInBounds_toArray, List.set_cons_zero, List.set_cons_succ]
      refine wpAny_take (i := 8) (oi := ⟨some 36, _, _, _, _, _⟩) (v := ?_) rfl (by kernel_rfl) (by kernel_rfl) (by kernel_rfl) (fun _ _ _ h => h) (Or.inl ⟨by rfl, by intro w; go_simp; try rfl⟩) ?_
      try simp only [Act.put, List.setIfInBounds_toArray, List.set_cons_zero, List.set_cons_succ]
      refine wpAny_take (i := 9) (oi := ⟨some 37, _, _, _, _, _⟩) (v := ?_) rfl (by kernel_rfl) (by kernel_rfl) (by kernel_rfl) (fun _ _ _ h => h) (Or.inl ⟨by rfl, by intro w; go_simp; try rfl⟩) ?_
      try simp only [Act.put, List.setIfInBounds_toArray, List.set_cons_zero, List.set_cons_succ]
      refine wpAny_ready (rs := [7]) (by kernel_rfl) (by simp) ?_
      refine AllReady.cons (o := ⟨some 35, _, _, _, _, _⟩) rfl (fun K hK => ?_) AllReady.nil
      go_simp
      refine (lay_any b g hbg ad2 { t with tr := t.tr ++ [⟨2, x, y, l⟩] } 78 (some ⟨w2.heap.size, 0, none⟩) 272 272 272 272 (padL (l.take 272) 272) (t.sl (x, y)) wS HD3.out.1 HPd.out.pow HD3.out.2.1 HL3.out HD3.out.2.2 (Nat.le_refl _) (by omega)).mono ?_
      rintro e w61 ⟨rfl, hbq, hgq, h2q⟩
      have HR : Kp _ := ⟨wrote_parts HPd.out HG.out h2q hbq hgq (by rw [laid_length _ _ _ (by rw [pad272]; exact layK_le _ _) (by rw [HL3.out]; exact layK_le _ _)]; exact HL3.out)⟩
      clear hbq hgq h2q
      refine hK _ _ ?_
      clear hK K
      try simp only [Act.put, List.setIfInBounds_toArray, List.set_cons_zero, List.set_cons_succ]
      refine wpAny_take (i := 10) (oi := ⟨some 38, _, _, _, _, _⟩) (v := ?_) rfl (by kernel_rfl) (by kernel_rfl) (by kernel_rfl) (fun _ _ _ h => h) (Or.inl ⟨by rfl, by intro w; go_simp; try rfl⟩) ?_
      try simp only [Act.put, List.setIfInBounds_toArray, List.set_cons_zero, List.set_cons_succ]
      refine wpAny_take (i := 11) (oi := ⟨some 8, _, _, _, _, _⟩) (v := ?_) rfl (by kernel_rfl) (by kernel_rfl) (by kernel_rfl) (fun _ _ _ h => h) (Or.inl ⟨by rfl, by intro w; go_simp; try rfl⟩) ?_
      try simp only [Act.put, List.setIfInBounds_toArray, List.set_cons_zero, List.set_cons_succ]
      refine wpAny_done (by kernel_rfl) ?_ _
      go_wp2
      go_ret
      rw [HT.out.1, HT.out.2]
      refine ⟨?_, ad2, L2, O2, HR.out.1, HNd.out.trans HR.out.2⟩
      show Ending.returned (.bool (((layK t 272 : Nat) : Int) == ((272 : Nat) : Int))) = _
      rw [int_beq]
    · have HKK : Kp _ := ⟨hkk⟩
      clear hkk
      go_wp2_with (with_reducible refine wpList_cut_h (o := ⟨some 26, _, _, _, _, _⟩) el8 rfl (.tmp 22) (.tmp 25) rfl rfl HA2.out.bs .i64 _ k rfl (by have := HKK.out; omega) hkn ?_)
      intro A3 hb3
      have HB3 : Kp _ := ⟨hb3⟩
      clear hb3 hc HKK
      go_wp2_with fail
      refine (pad6_any A3 k c 272 (l.take k) w2 HB3.out (by omega) (by omega)).mono ?_
      rw [HTk.out, pad272 l]
      rintro e w3 ⟨rfl, hk3, hb3⟩
      have P3 := HP2.out.below hb3
      have HP3 : Kp _ := ⟨P3⟩
      have HN3 : Kp _ := ⟨HN2.out.below hb3⟩
      have HK3 : Kp _ := ⟨hk3⟩
      have hbg : b ≠ g := P3.blk.row.ne (P3.slots.blk _ g HG.out).row (by decide)
      have hblt : b < w2.heap.size := HP2.out.blk.lt
      have hglt : g < w2.heap.size := (HP2.out.slots.blk _ g HG.out).lt
      have HTs : Kp (BsT w3 b g (some ⟨w2.heap.size, 0, none⟩) 272 272 (padL (l.take 272) 272)) := ⟨⟨hk3.bytes (o := 0) hk3.lt (by rw [List.drop_zero, List.take_of_length_le (by rw [cells8_length, pad272]; exact Nat.le_refl _)]) (pad272 l) 272 (Nat.le_refl _) (by simp only [maxLen]; omega), fun ad hA _ => by
        obtain rfl := Option.some.inj hA
        exact ⟨by simp; omega, by simp; omega⟩⟩⟩
      have HD3 : Kp (Blk w3.drew b 75 (wdCells ad2 { t with tr := t.tr ++ [⟨2, x, y, l⟩] }) ∧ Blk w3.drew g 78 (cells8 (t.sl (x, y))) ∧ BsT w3.drew b g (some ⟨w2.heap.size, 0, none⟩) 272 272 (padL (l.take 272) 272)) := ⟨P3.blk.drew, (P3.slots.blk _ g HG.out).drew, ⟨HTs.out.bs.drew, HTs.out.apart⟩⟩
      have HL3 : Kp ((t.sl (x, y)).length = 272) := ⟨P3.slots.len _ g HG.out⟩
      have HPd : Kp _ := ⟨P3.below (Below.refl w3.heap.size w3).drew⟩
      have HNd : Kp _ := ⟨HN3.out.below (Below.refl w3.heap.size w3).drew⟩
      have hsl := contents_slice g
      clear P3 hb3 hk3 HK3 HTs HP3 HN3
      go_wp2_with fail
      refine wp_region_any (by kernel_rfl) ?_
      change wpAny _ _ _ _ _ _ _ w3.drew
      generalize w3.drew = wS at *
      refine wpAny_take (i := 0) (oi := ⟨some 28, _, _, _, _, _⟩) (v := ?_) rfl (by kernel_rfl) (by kernel_rfl) (by kernel_rfl) (fun _ _ _ h => h) (Or.inl ⟨by rfl, by intro w; go_simp; try rfl⟩) ?_
      try simp only [Act.put, List.setIfInBounds_toArray, List.set_cons_zero, List.set_cons_succ]
      refine wpAny_take (i := 1) (oi := ⟨some 29, _, _, _, _, _⟩) (v := ?_) rfl (by kernel_rfl) (by kernel_rfl) (by kernel_rfl) (fun _ _ _ h => h) (Or.inl ⟨by rfl, by intro w; go_simp; try rfl⟩) ?_
      try simp only [Act.put, List.setIfInBounds_toArray, List.set_cons_zero, List.set_cons_succ]
      refine wpAny_take (i := 2) (oi := ⟨some 30, _, _, _, _, _⟩) (v := ?_) rfl (by kernel_rfl) (by kernel_rfl) (by kernel_rfl) (fun _ _ _ h => h) (Or.inl ⟨by rfl, by intro w; go_simp; try rfl⟩) ?_
      try simp only [Act.put, List.setIfInBounds_toArray, List.set_cons_zero, List.set_cons_succ]
      refine wpAny_take (i := 3) (oi := ⟨some 31, _, _, _, _, _⟩) (v := ?_) rfl (by kernel_rfl) (by kernel_rfl) (by kernel_rfl) (fun _ _ _ h => h) (Or.inl ⟨by rfl, by intro w; go_simp; try rfl⟩) ?_
      try simp only [Act.put, List.setIfInBounds_toArray, List.set_cons_zero, List.set_cons_succ]
      refine wpAny_take (i := 4) (oi := ⟨some 32, _, _, _, _, _⟩) (v := ?_) rfl (by kernel_rfl) (by kernel_rfl) (by kernel_rfl) (fun _ _ _ h => h) (Or.inl ⟨by rfl, by intro w; go_simp; try rfl⟩) ?_
      try simp only [Act.put, List.setIfInBounds_toArray, List.set_cons_zero, List.set_cons_succ]
      refine wpAny_take (i := 5) (oi := ⟨some 33, _, _, _, _, _⟩) (v := ?_) rfl (by kernel_rfl) (by kernel_rfl) (by kernel_rfl) (fun _ _ _ h => h) (Or.inl ⟨by rfl, by intro w; go_simp; try rfl⟩) ?_
      try simp only [Act.put, List.setIfInBounds_toArray, List.set_cons_zero, List.set_cons_succ]
      refine wpAny_take (i := 6) (oi := ⟨some 34, _, _, _, _, _⟩) (v := ?_) rfl (by kernel_rfl) (by kernel_rfl) (by kernel_rfl) (fun _ _ _ h => h) (Or.inl ⟨by rfl, by intro w; go_simp; try rfl⟩) ?_
      try simp only [Act.put, List.setIfInBounds_toArray, List.set_cons_zero, List.set_cons_succ]
      refine wpAny_take (i := 8) (oi := ⟨some 36, _, _, _, _, _⟩) (v := ?_) rfl (by kernel_rfl) (by kernel_rfl) (by kernel_rfl) (fun _ _ _ h => h) (Or.inl ⟨by rfl, by intro w; go_simp; try rfl⟩) ?_
      try simp only [Act.put, List.setIfInBounds_toArray, List.set_cons_zero, List.set_cons_succ]
      refine wpAny_take (i := 9) (oi := ⟨some 37, _, _, _, _, _⟩) (v := ?_) rfl (by kernel_rfl) (by kernel_rfl) (by kernel_rfl) (fun _ _ _ h => h) (Or.inl ⟨by rfl, by intro w; go_simp; try rfl⟩) ?_
      try simp only [Act.put, List.setIfInBounds_toArray, List.set_cons_zero, List.set_cons_succ]
      refine wpAny_ready (rs := [7]) (by kernel_rfl) (by simp) ?_
      refine AllReady.cons (o := ⟨some 35, _, _, _, _, _⟩) rfl (fun K hK => ?_) AllReady.nil
      go_simp
      refine (lay_any b g hbg ad2 { t with tr := t.tr ++ [⟨2, x, y, l⟩] } 78 (some ⟨w2.heap.size, 0, none⟩) 272 272 272 272 (padL (l.take 272) 272) (t.sl (x, y)) wS HD3.out.1 HPd.out.pow HD3.out.2.1 HL3.out HD3.out.2.2 (Nat.le_refl _) (by omega)).mono ?_
      rintro e w61 ⟨rfl, hbq, hgq, h2q⟩
      have HR : Kp _ := ⟨wrote_parts HPd.out HG.out h2q hbq hgq (by rw [laid_length _ _ _ (by rw [pad272]; exact layK_le _ _) (by rw [HL3.out]; exact layK_le _ _)]; exact HL3.out)⟩
      clear hbq hgq h2q
      refine hK _ _ ?_
      clear hK K
      try simp only [Act.put, List.setIfInBounds_toArray, List.set_cons_zero, List.set_cons_succ]
      refine wpAny_take (i := 10) (oi := ⟨some 38, _, _, _, _, _⟩) (v := ?_) rfl (by kernel_rfl) (by kernel_rfl) (by kernel_rfl) (fun _ _ _ h => h) (Or.inl ⟨by rfl, by intro w; go_simp; try rfl⟩) ?_
      try simp only [Act.put, List.setIfInBounds_toArray, List.set_cons_zero, List.set_cons_succ]
      refine wpAny_take (i := 11) (oi := ⟨some 8, _, _, _, _, _⟩) (v := ?_) rfl (by kernel_rfl) (by kernel_rfl) (by kernel_rfl) (fun _ _ _ h => h) (Or.inl ⟨by rfl, by intro w; go_simp; try rfl⟩) ?_
      try simp only [Act.put, List.setIfInBounds_toArray, List.set_cons_zero, List.set_cons_succ]
      refine wpAny_done (by kernel_rfl) ?_ _
      go_wp2
      go_ret
      rw [HT.out.1, HT.out.2]
      refine ⟨?_, ad2, L2, O2, HR.out.1, HNd.out.trans HR.out.2⟩
      show Ending.returned (.bool (((layK t 272 : Nat) : Int) == ((272 : Nat) : Int))) = _
      rw [int_beq]
  · have hs := slot_none h hth
    have HT : Kp (writeW t (x, y) l = t ∧ writeB t (x, y) = false) := ⟨by unfold writeW writeB; rw [if_neg hth, show thereW t (x, y) = false by simpa using hth]; exact ⟨rfl, rfl⟩⟩
    clear h hx hth ha
    go_enter Try.func12, Try.ntmps12
    go_wp2_with fail
    refine (slot_any HP.out x y HX.out).mono ?_
    rintro e w1 ⟨rfl, rfl⟩
    rw [hs]
    go_wp2
    go_ret
    rw [HT.out.1, HT.out.2]
    exact ⟨ad, L, O, rfl, HP.out.stayO, HP.out.nx⟩
end
end Go.Proofs.Ytpbpegoobgfjcaa
