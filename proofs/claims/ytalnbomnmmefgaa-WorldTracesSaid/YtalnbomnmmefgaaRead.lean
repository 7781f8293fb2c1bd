/- The contracts of World's Read and Look. -/
import Derived.Test.YtalnbomnmmefgaaTel
import Derived.Test.YtalnbomnmmefgaaRuns
namespace Go.Proofs.Ytalnbomnmmefgaa
open Go.RowKit

theorem contents_slice (g : Nat) (W : World) : (Instr.sliceAt 78 (.pointer (some ⟨g, 0, none⟩)) none none none).run Try.prog W = .ok (.slice (some ⟨g, 0, none⟩) 272 272) W := by
  have h1 : (Try.prog).underlying 78 = some (.array ((Try.prog).arrayLen 78) ((Try.prog).elem 78)) := by kernel_rfl
  have h2 : (Try.prog).arrayLen 78 = 272 := by kernel_rfl
  have h3 : (Try.prog).elem 78 = 5 := by kernel_rfl
  have h4 : ((Try.prog).info? 5).map (·.size) = some 1 := by kernel_rfl
  rw [run_sliceAt_array_all W _ ⟨g, 0, none⟩ h1, h2, h3]
  cases hq : (Try.prog).info? 5 with
  | none => simp [hq] at h4
  | some i =>
    have hs : i.size = 1 := by simpa [hq] using h4
    simp [Go.sizeOf, typeInfo, hq, hs, slicedAt, Addr.add]

/-- is there such a slot, and power? -/
def thereW (t : Wd) (x : Int × Int) : Bool := !t.lost && inR t.n x
def readW (t : Wd) (x : Int × Int) : Wd := if thereW t x = true then tellW t 1 x.1 x.2 (t.sl x) else t
def readL (t : Wd) (x : Int × Int) : List UInt8 := if thereW t x = true then toldL t (t.sl x) else []
section
variable {O M : Nat → Prop} {b : Nat} {ad : Ad} {t : Wd} {p : Int × Int → Option Nat} {L : List Hd4} {w : World}
theorem Parts.stayO (h : Parts w O M b ad t p L) : Parts w O (Or2 M O) b ad t p L :=
  h.chg (S := fun _ => False) (Chg.refl _ _) (fun _ h => h.elim) (fun _ h => h.elim) (fun k hk => .inl (hk.elim id (h.sub k))) (fun _ h => .inl h) (fun k hk => h.lt k (hk.elim id (h.sub k)))
theorem Parts.nx (h : Parts w O M b ad t p L) : Nx w O w O := Nx.refl O w (fun k hk => h.lt k (h.sub k hk))
theorem slot_there (h : Parts w O M b ad t p L) {x : Int × Int} (hx : thereW t x = true) : ∃ g, p x = some g ∧ slotV t p x = .pointer (some ⟨g, 0, none⟩) := by
  unfold thereW at hx
  rw [Bool.and_eq_true] at hx
  have h1 := h.slots.has x
  rw [hx.2] at h1
  obtain ⟨g, hg⟩ := Option.isSome_iff_exists.1 h1
  refine ⟨g, hg, ?_⟩
  unfold slotV
  rw [if_neg (by simpa using hx.1), hg]
  rfl
theorem slot_none (h : Parts w O M b ad t p L) {x : Int × Int} (hx : ¬ thereW t x = true) : slotV t p x = .pointer none := by
  unfold slotV
  split
  · rfl
  · rename_i hl
    have hl' : t.lost = false := by simpa using hl
    have h1 := h.slots.has x
    have h2 : inR t.n x = false := by
      unfold thereW at hx
      rw [hl'] at hx
      simpa using hx
    rw [h2] at h1
    cases hp : p x with
    | none => rfl
    | some g => rw [hp] at h1; cases h1
theorem slot_bs (h : Parts w O M b ad t p L) {x : Int × Int} {g : Nat} (hg : p x = some g) : Bs w w.heap.size (some ⟨g, 0, none⟩) 272 272 (t.sl x) := by
  have hl := h.slots.len x g hg
  refine (h.slots.blk x g hg).bytes (o := 0) (h.slots.blk x g hg).lt ?_ hl 272 (Nat.le_refl _) (by simp only [maxLen]; omega)
  rw [List.drop_zero, List.take_of_length_le (by rw [cells8_length, hl]; exact Nat.le_refl _)]

set_option maxRecDepth 100000 in
set_option maxHeartbeats 1000000 in
theorem read_any (h : Parts w O M b ad t p L) (x y : Int) (hx : okP (x, y)) (hlen : t.tr.length ≤ 1000000) (hr : t.reads ≤ 1000000) :
    Calls Try.prog 13 #[.pointer (some ⟨b, 0, none⟩), .int .i64 x, .int .i64 y] w fun e w' => ∃ A' n' c' ad' L' O', e = .returned (.slice A' n' c') ∧ Parts w' O' (Or2 M O') b ad' (readW t (x, y)) p L' ∧ Nx w O w' O' ∧ BsM w' (Or2 M O') A' n' c' (readL t (x, y)) := by
  have HP : Kp _ := ⟨h⟩
  have HX : Kp _ := ⟨hx⟩
  by_cases hth : thereW t (x, y) = true
  · obtain ⟨g, hg, hs⟩ := slot_there h hth
    have HG : Kp _ := ⟨hg⟩
    have HT : Kp (readW t (x, y) = tellW t 1 x y (t.sl (x, y)) ∧ readL t (x, y) = toldL t (t.sl (x, y))) := ⟨by unfold readW readL; rw [if_pos hth, if_pos hth]; exact ⟨rfl, rfl⟩⟩
    have hsl := contents_slice g w
    clear h hx hth hg
    go_enter Try.func13, Try.ntmps13
    go_wp2_with fail
    refine (slot_any HP.out x y HX.out).mono ?_
    rintro e w1 ⟨rfl, rfl⟩
    rw [hs]
    go_wp2_with fail
    refine (tell_any HP.out 1 x y (fun bs => ⟨.inl rfl, HX.out.1, HX.out.2⟩) (some ⟨g, 0, none⟩) 272 272 (t.sl (x, y)) (fun w' O' M' ad' t' L' hP hsl _ => hsl ▸ slot_bs hP HG.out) (by omega) hlen hr).mono ?_
    rintro e w2 ⟨A', n', c', ad', L', O', rfl, hP', hN', hB'⟩
    have HR : Kp _ := ⟨And.intro hP' (And.intro hN' hB')⟩
    clear hP' hN' hB'
    go_wp2
    go_ret
    rw [HT.out.1, HT.out.2]
    exact ⟨A', n', c', ad', L', O', rfl, HR.out⟩
  · have hs := slot_none h hth
    have HT : Kp (readW t (x, y) = t ∧ readL t (x, y) = []) := ⟨by unfold readW readL; rw [if_neg hth, if_neg hth]; exact ⟨rfl, rfl⟩⟩
    clear h hx hth
    go_enter Try.func13, Try.ntmps13
    go_wp2_with fail
    refine (slot_any HP.out x y HX.out).mono ?_
    rintro e w1 ⟨rfl, rfl⟩
    rw [hs]
    go_wp2
    go_ret
    rw [HT.out.1, HT.out.2]
    exact ⟨none, 0, 0, ad, L, O, rfl, HP.out.stayO, HP.out.nx, BsM.zero _ _⟩

/-- is there such a seal, and power? -/
def sealW (t : Wd) (i : Int) : Bool := !t.lost && (decide (0 ≤ i) && decide (i < 2))
def sealL (t : Wd) (i : Int) : List UInt8 := if i = 0 then t.s0 else t.s1
def lookW (t : Wd) (i : Int) : Wd := if sealW t i = true then tellW t 3 i 0 (sealL t i) else t
def lookL (t : Wd) (i : Int) : List UInt8 := if sealW t i = true then toldL t (sealL t i) else []
set_option maxRecDepth 100000 in
set_option maxHeartbeats 1000000 in
theorem look_any (h : Parts w O M b ad t p L) (i : Int) (hlen : t.tr.length ≤ 1000000) (hr : t.reads ≤ 1000000) :
    Calls Try.prog 30 #[.pointer (some ⟨b, 0, none⟩), .int .i64 i] w fun e w' => ∃ A' n' c' ad' L' O', e = .returned (.slice A' n' c') ∧ Parts w' O' (Or2 M O') b ad' (lookW t i) p L' ∧ Nx w O w' O' ∧ BsM w' (Or2 M O') A' n' c' (lookL t i) := by
  have HP : Kp _ := ⟨h⟩
  by_cases hth : sealW t i = true
  · have hth2 : (!t.lost && (decide (0 ≤ i) && decide (i < 2))) = true := hth
    have hi : i = 0 ∨ i = 1 := by
      simp only [Bool.and_eq_true, decide_eq_true_eq] at hth2
      omega
    obtain ⟨A0, n0, c0, hv0, hb0⟩ := h.seal0
    obtain ⟨A1, n1, c1, hv1, hb1⟩ := h.seal1
    have d1 : w.cell? ⟨b, 1, none⟩ = some (.slice A0 n0 c0) := by rw [h.blk.cell? 1, ← hv0]; rfl
    have d2 : w.cell? ⟨b, 2, none⟩ = some (.slice A1 n1 c1) := by rw [h.blk.cell? 2, ← hv1]; rfl
    have HB0 : Kp _ := ⟨hb0⟩
    have HB1 : Kp _ := ⟨hb1⟩
    have hs := hth2
    rcases hi with rfl | rfl
    · have HT : Kp (lookW t 0 = tellW t 3 0 0 t.s0 ∧ lookL t 0 = toldL t t.s0) := ⟨by unfold lookW lookL; rw [if_pos hth, if_pos hth]; exact ⟨rfl, rfl⟩⟩
      clear h hth hth2 hv0 hv1 hb0 hb1
      go_enter Try.func30, Try.ntmps30
      go_wp2_with fail
      refine (hasSeal_any b ad t w HP.out.blk 0).mono ?_
      rintro e w1 ⟨rfl, rfl⟩
      rw [hs]
      go_wp2_with fail
      refine (tell_any HP.out 3 0 0 (fun bs => ⟨.inr (.inr (.inl ⟨rfl, rfl⟩)), rfl, rfl⟩) A0 n0 c0 t.s0 (fun w' O' M' ad' t' L' _ _ hN => (HB0.out.nx HP.out.sub hN).bs) HB0.out.fit hlen hr).mono ?_
      rintro e w2 ⟨A', n', c', ad', L', O', rfl, hP', hN', hB'⟩
      have HR : Kp _ := ⟨And.intro hP' (And.intro hN' hB')⟩
      clear hP' hN' hB'
      go_wp2
      go_ret
      rw [HT.out.1, HT.out.2]
      exact ⟨A', n', c', ad', L', O', rfl, HR.out⟩
    · have HT : Kp (lookW t 1 = tellW t 3 1 0 t.s1 ∧ lookL t 1 = toldL t t.s1) := ⟨by unfold lookW lookL; rw [if_pos hth, if_pos hth]; exact ⟨rfl, rfl⟩⟩
      clear h hth hth2 hv0 hv1 hb0 hb1
      go_enter Try.func30, Try.ntmps30
      go_wp2_with fail
      refine (hasSeal_any b ad t w HP.out.blk 1).mono ?_
      rintro e w1 ⟨rfl, rfl⟩
      rw [hs]
      go_wp2_with fail
      refine (tell_any HP.out 3 1 0 (fun bs => ⟨.inr (.inr (.inl ⟨rfl, rfl⟩)), rfl, rfl⟩) A1 n1 c1 t.s1 (fun w' O' M' ad' t' L' _ _ hN => (HB1.out.nx HP.out.sub hN).bs) HB1.out.fit hlen hr).mono ?_
      rintro e w2 ⟨A', n', c', ad', L', O', rfl, hP', hN', hB'⟩
      have HR : Kp _ := ⟨And.intro hP' (And.intro hN' hB')⟩
      clear hP' hN' hB'
      go_wp2
      go_ret
      rw [HT.out.1, HT.out.2]
      exact ⟨A', n', c', ad', L', O', rfl, HR.out⟩
  · have hs : (!t.lost && (decide (0 ≤ i) && decide (i < 2))) = false := by
      have h1 := hth
      unfold sealW at h1
      simpa using h1
    have HT : Kp (lookW t i = t ∧ lookL t i = []) := ⟨by unfold lookW lookL; rw [if_neg hth, if_neg hth]; exact ⟨rfl, rfl⟩⟩
    clear h hth
    go_enter Try.func30, Try.ntmps30
    go_wp2_with fail
    refine (hasSeal_any b ad t w HP.out.blk i).mono ?_
    rintro e w1 ⟨rfl, rfl⟩
    rw [hs]
    go_wp2
    go_ret
    rw [HT.out.1, HT.out.2]
    exact ⟨none, 0, 0, ad, L, O, rfl, HP.out.stayO, HP.out.nx, BsM.zero _ _⟩
end
end Go.Proofs.Ytalnbomnmmefgaa
