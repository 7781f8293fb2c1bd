/- 
   
   
   
   
    -/
import Derived.Test.YtcehkafddlfleaaGreatDoorG21
import Derived.Laws.LoneSync
import Derived.Test.YtcehkafddlfleaaGreatDoorG18
import Derived.Test.YtcehkafddlfleaaGreatDoorG02
import Derived.Test.YtcehkafddlfleaaGreatDoorG09
import Derived.Test.YtcehkafddlfleaaGreatDoorG14
namespace Go.Proofs.YtcehkafddlfleaaGreatDoor
open Go.RowKit
set_option maxHeartbeats 400000 in
theorem wadd_any (b : Nat) (ad : Ad) (t : Wd) (w : World) (hb : Blk w b 108 (wdCells ad t)) (hr : t.reads ≤ 1000000) :
  Calls Tryz.prog 204 #[.pointer (some ⟨b, 7, none⟩), .int .i64 1] w fun e w' => e = .returned (.int .i64 ((t.reads : Int) + 1)) ∧ w' = w.setCell ⟨b, 7, none⟩ (.int .i64 ((t.reads : Int) + 1)) := by
 have c7 : w.cell? ⟨b, 7, none⟩ = some (.int .i64 (t.reads : Int)) := by rw [hb.cell? 7]; rfl
 have hadd := run_call_add (P := Tryz.prog) Tryz.func238 (by kernel_rfl) (by kernel_rfl) (by kernel_rfl) .i64 (by kernel_rfl) (y := 1) (s := (t.reads : Int) + 1) c7 (hb.frozen 7) (by simp [go_sem, IntKind.wrap_i64]; omega)
 clear hb
 go_enter Tryz.func204, Tryz.ntmps204
 go_wp2
 go_ret
 exact ⟨rfl, rfl⟩
def toldL (t : Wd) (l : List UInt8) : List UInt8 := (t.lies t.reads).getD l
def tellW (t : Wd) (kd pl sl : Int) (l : List UInt8) : Wd := { t with reads := t.reads + 1, lies := fun z => if z = (t.reads : Int) then none else t.lies z, tr := t.tr ++ [⟨kd, pl, sl, toldL t l⟩] }
theorem Parts.reflies {O M : Nat → Prop} {b : Nat} {ad : Ad} {t : Wd} {p : Int × Int → Option Nat} {L : List Hd4} {w : World} (h : Parts w O M b ad t p L) (lies' : Int → Option (List UInt8)) (he : ∀ z, okI z → lies' z = t.lies z) : Parts w O M b ad { t with lies := lies' } p L :=
 ⟨h.sub, h.lt, h.ob, h.blk, h.slots, h.lies.congr he, h.seal0, h.seal1, h.trace, h.big, h.pow, h.num, h.read, h.two⟩
theorem Nx.below {O O' : Nat → Prop} {w w' w2 : World} (h : Nx w O w' O') (hb : Below w'.heap.size w' w2) : Nx w O w2 O' :=
 ⟨h.chg.thenBelow hb, h.sub, h.new, fun k hk => Nat.lt_of_lt_of_le (h.lt k hk) hb.size⟩
theorem Nx.only {O : Nat → Prop} {w w' : World} {g : Nat} (ho : Only g w w') (hg : O g) (h : ∀ k, O k → k < w.heap.size) : Nx w O w' O := Nx.same (Chg.of_only ho hg) h
set_option maxRecDepth 100000 in
set_option maxHeartbeats 1000000 in
theorem wtell_any {O M : Nat → Prop} {b : Nat} {ad : Ad} {t : Wd} {p : Int × Int → Option Nat} {L : List Hd4} {w : World} (h : Parts w O M b ad t p L) (kd pl sl : Int) (hk : ∀ bs, TrOk ⟨kd, pl, sl, bs⟩) (A : Option Addr) (n c : Nat) (l : List UInt8)
  (hkeep : ∀ w' O' M' ad' t' L', Parts w' O' M' b ad' t' p L' → t'.sl = t.sl → Nx w O w' O' → Bs w' w'.heap.size A n c l) (hn : n ≤ 4294967296) (hlen : t.tr.length ≤ 1000000) (hr : t.reads ≤ 1000000) :
  Calls Tryz.prog 148 #[.pointer (some ⟨b, 0, none⟩), .int .i64 kd, .int .i64 pl, .int .i64 sl, .slice A n c] w fun e w' => ∃ A' n' c' ad' L' O', e = .returned (.slice A' n' c') ∧ Parts w' O' (Or2 M O') b ad' (tellW t kd pl sl l) p L' ∧ Nx w O w' O' ∧ BsM w' (Or2 M O') A' n' c' (toldL t l) := by
 have HP : Kp _ := ⟨h⟩
 have HK : Kp _ := ⟨hk⟩
 have HE : Kp _ := ⟨hkeep⟩
 have HZ : Kp (okI (t.reads : Int)) := ⟨by unfold okI; exact WalkArith.wf_i64 (by omega)⟩
 have HLen : Kp _ := ⟨hlen⟩
 clear h hk hkeep hlen
 go_enter Tryz.func148, Tryz.ntmps148
 go_wp2_with fail
 refine (wadd_any b ad t w HP.out.blk hr).mono ?_
 rintro e w1 ⟨rfl, rfl⟩
 have HO1 := Only.setCell w ⟨b, 7, none⟩ (.int .i64 ((t.reads : Int) + 1))
 have P1 : Parts (w.setCell ⟨b, 7, none⟩ (.int .i64 ((t.reads : Int) + 1))) O M b ad { t with reads := t.reads + 1 } p L :=
  HP.out.own HO1 (HP.out.blk.set 7 _) rfl rfl rfl rfl rfl rfl rfl HP.out.pow HP.out.num (by simp; omega)
 have N1 : Nx w O (w.setCell ⟨b, 7, none⟩ (.int .i64 ((t.reads : Int) + 1))) O := Nx.only HO1 HP.out.ob (fun k hk => HP.out.lt k (HP.out.sub k hk))
 generalize w.setCell ⟨b, 7, none⟩ (.int .i64 ((t.reads : Int) + 1)) = w1 at *
 have HP1 : Kp _ := ⟨P1⟩
 have HN1 : Kp _ := ⟨N1⟩
 have c8 : w1.cell? ⟨b, 8, none⟩ = some (.map ad.ml) := by rw [P1.blk.cell? 8]; rfl
 have hsub : wrap64 ((t.reads : Int) + 1 - 1) = (t.reads : Int) := by unfold wrap64; omega
 have hsub2 : wrap64 (t.reads : Int) = (t.reads : Int) := by unfold wrap64; omega
 have hz : (zeroValue 29).run Tryz.prog w1 = .ok (.slice none 0 0) w1 := by kernel_rfl
 have HZv : Kp _ := ⟨hz⟩
 clear HO1 N1 HP hz
 rcases P1.lies with ⟨hml, hno⟩ | ⟨g, m, f, hml, hOg, hI, hm, hf⟩
 ·rw [hml] at c8
  have HNone : Kp (t.lies t.reads = none) := ⟨hno _ HZ.out⟩
  have P2 := P1.reflies (fun z => if z = (t.reads : Int) then none else t.lies z) (fun z hz => by
   by_cases e : z = (t.reads : Int)
   ·rw [e]; simp [HNone.out]
   ·simp [e])
  have HP2 : Kp _ := ⟨P2⟩
  clear P1 P2 hno hml
  go_wp2_with (with_reducible refine wpList_lookI_nil (o := ⟨some 27, _, _, _, _, _⟩) keyI rfl (.tmp 25) (.tmp 26) rfl Tryz.underlying106 HZv.out rfl (t.reads : Int) HZ.out rfl ?_)
  go_wp2_with fail
  refine (note_any HP2.out ⟨kd, pl, sl, l⟩ (HK.out l) A n c (HE.out _ _ _ _ _ _ HP2.out rfl HN1.out) hn HLen.out).mono ?_
  rintro e w3 ⟨rfl, ad3, L3, O3, P3, N3⟩
  have HP3 : Kp _ := ⟨P3⟩
  have HN3 : Kp _ := ⟨HN1.out.trans N3⟩
  clear P3 N3
  go_wp2_with fail
  refine (clone_any A n c l w3 (HE.out _ _ _ _ _ _ HP3.out rfl HN3.out) hn).mono ?_
  rintro e w4 ⟨v, rfl, ho4, hb4⟩
  obtain ⟨A4, c4, rfl, hbs4⟩ := BsM.of_own (M := Or2 M O3) ho4 HP3.out.lt hn
  have HB4 : Kp _ := ⟨And.intro hb4 hbs4⟩
  clear ho4 hb4 hbs4
  go_wp2
  go_ret
  have e1 : toldL t l = l := by unfold toldL; rw [HNone.out]; rfl
  refine ⟨A4, n, c4, ad3, L3, O3, rfl, ?_, HN3.out.below HB4.out.1, by rw [e1]; exact HB4.out.2⟩
  unfold tellW
  rw [e1]
  exact HP3.out.below HB4.out.1
 ·rw [hml] at c8
  have HI : Kp _ := ⟨hI⟩
  have hfz := hf _ HZ.out
  cases hfr : f (t.reads : Int) with
  | none =>
   rw [hfr] at hfz
   have hno : t.lies t.reads = none := by
    cases hl : t.lies (t.reads : Int) with
    | none => rfl
    | some _ => simp only [hl, LieAt] at hfz
   have HNone : Kp (t.lies t.reads = none) := ⟨hno⟩
   have P2 := P1.reflies (fun z => if z = (t.reads : Int) then none else t.lies z) (fun z hz => by
    by_cases e : z = (t.reads : Int)
    ·rw [e]; simp [HNone.out]
    ·simp [e])
   have HP2 : Kp _ := ⟨P2⟩
   clear P1 P2 hno hml hI hm hf hfz
   go_wp2_with (with_reducible refine wpList_lookI_ok (o := ⟨some 27, _, _, _, _, _⟩) HI.out keyI rfl (.tmp 25) (.tmp 26) rfl Tryz.underlying106 HZv.out rfl (t.reads : Int) HZ.out rfl ?_)
   refine (note_any HP2.out ⟨kd, pl, sl, l⟩ (HK.out l) A n c (HE.out _ _ _ _ _ _ HP2.out rfl HN1.out) hn HLen.out).mono ?_
   rintro e w3 ⟨rfl, ad3, L3, O3, P3, N3⟩
   have HP3 : Kp _ := ⟨P3⟩
   have HN3 : Kp _ := ⟨HN1.out.trans N3⟩
   clear P3 N3
   go_wp2_with fail
   refine (clone_any A n c l w3 (HE.out _ _ _ _ _ _ HP3.out rfl HN3.out) hn).mono ?_
   rintro e w4 ⟨v, rfl, ho4, hb4⟩
   obtain ⟨A4, c4, rfl, hbs4⟩ := BsM.of_own (M := Or2 M O3) ho4 HP3.out.lt hn
   have HB4 : Kp _ := ⟨And.intro hb4 hbs4⟩
   clear ho4 hb4 hbs4
   go_wp2
   go_ret
   have e1 : toldL t l = l := by unfold toldL; rw [HNone.out]; rfl
   refine ⟨A4, n, c4, ad3, L3, O3, rfl, ?_, HN3.out.below HB4.out.1, by rw [e1]; exact HB4.out.2⟩
   unfold tellW
   rw [e1]
   exact HP3.out.below HB4.out.1
  | some v =>
   rw [hfr] at hfz
   obtain ⟨lb, hlb⟩ : ∃ lb, t.lies t.reads = some lb := by
    cases hl : t.lies (t.reads : Int) with
    | none => simp only [hl, LieAt] at hfz
    | some lb => exact ⟨lb, rfl⟩
   rw [hlb] at hfz
   obtain ⟨Av, nv, cv, rfl, hbv⟩ := hfz
   have HLb : Kp (t.lies t.reads = some lb) := ⟨hlb⟩
   have HBv : Kp _ := ⟨hbv⟩
   have HF : Kp (ad.ml = some g ∧ m ≤ t.nl ∧ O g ∧ ∀ z, okI z → LieAt w1 M (f z) (t.lies z)) := ⟨hml, hm, hOg, hf⟩
   clear P1 hml hI hm hf hlb hbv hOg
   go_wp2_with (first | (with_reducible refine wpList_lookI_ok (o := ⟨some 27, _, _, _, _, _⟩) HI.out keyI rfl (.tmp 25) (.tmp 26) rfl Tryz.underlying106 HZv.out rfl (t.reads : Int) HZ.out rfl ?_) | (with_reducible refine wpList_dropI (o := ⟨none, _, _, _, _, _⟩) HI.out keyI rfl (.tmp 35) (.tmp 36) rfl Tryz.underlying106 rfl (t.reads : Int) HZ.out rfl ?_))
   intro w2 hI2 ho2
   have P2 := HP1.out.lied (lies := fun z => if z = (t.reads : Int) then none else t.lies z) (nl := t.nl) HF.out.1 ho2 hI2 (by have := HF.out.2.1; omega) (fun z hz => by
    by_cases e : z = (t.reads : Int)
    ·simp [e, LieAt]
    ·simpa [e] using HF.out.2.2.2 z hz)
   have C2 : Chg O w1 w2 := Chg.of_only ho2 HF.out.2.2.1
   have HP2 : Kp _ := ⟨P2⟩
   have HN2 : Kp _ := ⟨HN1.out.trans (Nx.only ho2 HF.out.2.2.1 (fun k hk => HP1.out.lt k (HP1.out.sub k hk)))⟩
   have HB2 : Kp _ := ⟨HBv.out.chg (M' := M) C2 HP1.out.sub (fun _ h => .inl h)⟩
   have hnv := HBv.out.fit
   clear P2 hI2 ho2 hfr C2 c8
   go_wp2_with fail
   refine (note_any HP2.out ⟨kd, pl, sl, lb⟩ (HK.out lb) Av nv cv HB2.out.bs hnv HLen.out).mono ?_
   rintro e w3 ⟨rfl, ad3, L3, O3, P3, N3⟩
   have HP3 : Kp _ := ⟨P3⟩
   have HB3 : Kp _ := ⟨HB2.out.nx HP2.out.sub N3⟩
   have HN3 : Kp _ := ⟨HN2.out.trans N3⟩
   clear P3 N3
   go_wp2_with fail
   refine (clone_any Av nv cv lb w3 HB3.out.bs hnv).mono ?_
   rintro e w4 ⟨v, rfl, ho4, hb4⟩
   obtain ⟨A4, c4, rfl, hbs4⟩ := BsM.of_own (M := Or2 M O3) ho4 HP3.out.lt hnv
   have HB4 : Kp _ := ⟨And.intro hb4 hbs4⟩
   clear ho4 hb4 hbs4
   go_wp2
   go_ret
   have e1 : toldL t l = lb := by unfold toldL; rw [HLb.out]; rfl
   refine ⟨A4, nv, c4, ad3, L3, O3, rfl, ?_, HN3.out.below HB4.out.1, by rw [e1]; exact HB4.out.2⟩
   unfold tellW
   rw [e1]
   exact HP3.out.below HB4.out.1
end Go.Proofs.YtcehkafddlfleaaGreatDoor

namespace Go.Proofs.YtcehkafddlfleaaGreatDoor
open Go.RowKit
theorem contents_slice (g : Nat) (W : World) : (Instr.sliceAt 111 (.pointer (some ⟨g, 0, none⟩)) none none none).run Tryz.prog W = .ok (.slice (some ⟨g, 0, none⟩) 272 272) W := by
 have h1 : (Tryz.prog).underlying 111 = some (.array ((Tryz.prog).arrayLen 111) ((Tryz.prog).elem 111)) := by kernel_rfl
 have h2 : (Tryz.prog).arrayLen 111 = 272 := by kernel_rfl
 have h3 : (Tryz.prog).elem 111 = 5 := by kernel_rfl
 have h4 : ((Tryz.prog).info? 5).map (·.size) = some 1 := by kernel_rfl
 rw [run_sliceAt_array_all W _ ⟨g, 0, none⟩ h1, h2, h3]
 cases hq : (Tryz.prog).info? 5 with
 | none => simp [hq] at h4
 | some i =>
  have hs : i.size = 1 := by simpa [hq] using h4
  simp [Go.sizeOf, typeInfo, hq, hs, slicedAt, Addr.add]
def thereW (t : Wd) (x : Int × Int) : Bool := !t.lost && inR t.n x
def readW (t : Wd) (x : Int × Int) : Wd := if thereW t x = true then tellW t 1 x.1 x.2 (t.sl x) else t
def readLw (t : Wd) (x : Int × Int) : List UInt8 := if thereW t x = true then toldL t (t.sl x) else []
section
variable {O M : Nat → Prop} {b : Nat} {ad : Ad} {t : Wd} {p : Int × Int → Option Nat} {L : List Hd4} {w : World}
theorem Parts.stayO (h : Parts w O M b ad t p L) : Parts w O (Or2 M O) b ad t p L :=
 h.chg (S := fun _ => False) (Chg.refl _ _) (fun _ h => h.elim) (fun _ h => h.elim) (fun k hk => .inl (hk.elim id (h.sub k))) (fun _ h => .inl h) (fun k hk => h.lt k (hk.elim id (h.sub k)))
theorem Parts.nx (h : Parts w O M b ad t p L) : Nx w O w O := Nx.refl O w (fun k hk => h.lt k (h.sub k hk))
theorem slot_there (h : Parts w O M b ad t p L) {x : Int × Int} (hx : thereW t x = true) : ∃ g, p x = some g ∧ slotV t p x = .pointer (some ⟨g, 0, none⟩) := by
 unfold thereW at hx
 rw [Bool.and_eq_true] at hx
 have h1 := h.slots.has x
 rw [hx.2] at h1
 obtain ⟨g, hg⟩ := Option.isSome_iff_exists.1 h1
 refine ⟨g, hg, ?_⟩
 unfold slotV
 rw [if_neg (by simpa using hx.1), hg]
 rfl
theorem slot_none (h : Parts w O M b ad t p L) {x : Int × Int} (hx : ¬ thereW t x = true) : slotV t p x = .pointer none := by
 unfold slotV
 split
 ·rfl
 ·rename_i hl
  have hl' : t.lost = false := by simpa using hl
  have h1 := h.slots.has x
  have h2 : inR t.n x = false := by
   unfold thereW at hx
   rw [hl'] at hx
   simpa using hx
  rw [h2] at h1
  cases hp : p x with
  | none => rfl
  | some g => rw [hp] at h1; cases h1
theorem slot_bs (h : Parts w O M b ad t p L) {x : Int × Int} {g : Nat} (hg : p x = some g) : Bs w w.heap.size (some ⟨g, 0, none⟩) 272 272 (t.sl x) := by
 have hl := h.slots.len x g hg
 refine (h.slots.blk x g hg).bytes (o := 0) (h.slots.blk x g hg).lt ?_ hl 272 (Nat.le_refl _) (by simp only [maxLen]; omega)
 rw [List.drop_zero, List.take_of_length_le (by rw [cells8_length, hl]; exact Nat.le_refl _)]
set_option maxRecDepth 100000 in
set_option maxHeartbeats 1000000 in
theorem wread_any (h : Parts w O M b ad t p L) (x y : Int) (hx : okP (x, y)) (hlen : t.tr.length ≤ 1000000) (hr : t.reads ≤ 1000000) :
  Calls Tryz.prog 150 #[.pointer (some ⟨b, 0, none⟩), .int .i64 x, .int .i64 y] w fun e w' => ∃ A' n' c' ad' L' O', e = .returned (.slice A' n' c') ∧ Parts w' O' (Or2 M O') b ad' (readW t (x, y)) p L' ∧ Nx w O w' O' ∧ BsM w' (Or2 M O') A' n' c' (readLw t (x, y)) := by
 have HP : Kp _ := ⟨h⟩
 have HX : Kp _ := ⟨hx⟩
 by_cases hth : thereW t (x, y) = true
 ·obtain ⟨g, hg, hs⟩ := slot_there h hth
  have HG : Kp _ := ⟨hg⟩
  have HT : Kp (readW t (x, y) = tellW t 1 x y (t.sl (x, y)) ∧ readLw t (x, y) = toldL t (t.sl (x, y))) := ⟨by unfold readW readLw; rw [if_pos hth, if_pos hth]; exact ⟨rfl, rfl⟩⟩
  have hsl := contents_slice g w
  clear h hx hth hg
  go_enter Tryz.func150, Tryz.ntmps150
  go_wp2_with fail
  refine (wslot_any HP.out x y HX.out).mono ?_
  rintro e w1 ⟨rfl, rfl⟩
  rw [hs]
  go_wp2_with fail
  refine (wtell_any HP.out 1 x y (fun bs => ⟨.inl rfl, HX.out.1, HX.out.2⟩) (some ⟨g, 0, none⟩) 272 272 (t.sl (x, y)) (fun w' O' M' ad' t' L' hP hsl _ => hsl ▸ slot_bs hP HG.out) (by omega) hlen hr).mono ?_
  rintro e w2 ⟨A', n', c', ad', L', O', rfl, hP', hN', hB'⟩
  have HR : Kp _ := ⟨And.intro hP' (And.intro hN' hB')⟩
  clear hP' hN' hB'
  go_wp2
  go_ret
  rw [HT.out.1, HT.out.2]
  exact ⟨A', n', c', ad', L', O', rfl, HR.out⟩
 ·have hs := slot_none h hth
  have HT : Kp (readW t (x, y) = t ∧ readLw t (x, y) = []) := ⟨by unfold readW readLw; rw [if_neg hth, if_neg hth]; exact ⟨rfl, rfl⟩⟩
  clear h hx hth
  go_enter Tryz.func150, Tryz.ntmps150
  go_wp2_with fail
  refine (wslot_any HP.out x y HX.out).mono ?_
  rintro e w1 ⟨rfl, rfl⟩
  rw [hs]
  go_wp2
  go_ret
  rw [HT.out.1, HT.out.2]
  exact ⟨none, 0, 0, ad, L, O, rfl, HP.out.stayO, HP.out.nx, BsM.zero _ _⟩
def sealW (t : Wd) (i : Int) : Bool := !t.lost && (decide (0 ≤ i) && decide (i < 2))
def sealL (t : Wd) (i : Int) : List UInt8 := if i = 0 then t.s0 else t.s1
def lookW (t : Wd) (i : Int) : Wd := if sealW t i = true then tellW t 3 i 0 (sealL t i) else t
def lookL (t : Wd) (i : Int) : List UInt8 := if sealW t i = true then toldL t (sealL t i) else []
set_option maxRecDepth 100000 in
set_option maxHeartbeats 1000000 in
theorem look_any (h : Parts w O M b ad t p L) (i : Int) (hlen : t.tr.length ≤ 1000000) (hr : t.reads ≤ 1000000) :
  Calls Tryz.prog 87 #[.pointer (some ⟨b, 0, none⟩), .int .i64 i] w fun e w' => ∃ A' n' c' ad' L' O', e = .returned (.slice A' n' c') ∧ Parts w' O' (Or2 M O') b ad' (lookW t i) p L' ∧ Nx w O w' O' ∧ BsM w' (Or2 M O') A' n' c' (lookL t i) := by
 have HP : Kp _ := ⟨h⟩
 by_cases hth : sealW t i = true
 ·have hth2 : (!t.lost && (decide (0 ≤ i) && decide (i < 2))) = true := hth
  have hi : i = 0 ∨ i = 1 := by
   simp only [Bool.and_eq_true, decide_eq_true_eq] at hth2
   omega
  obtain ⟨A0, n0, c0, hv0, hb0⟩ := h.seal0
  obtain ⟨A1, n1, c1, hv1, hb1⟩ := h.seal1
  have d1 : w.cell? ⟨b, 1, none⟩ = some (.slice A0 n0 c0) := by rw [h.blk.cell? 1, ← hv0]; rfl
  have d2 : w.cell? ⟨b, 2, none⟩ = some (.slice A1 n1 c1) := by rw [h.blk.cell? 2, ← hv1]; rfl
  have HB0 : Kp _ := ⟨hb0⟩
  have HB1 : Kp _ := ⟨hb1⟩
  have hs := hth2
  rcases hi with rfl | rfl
  ·have HT : Kp (lookW t 0 = tellW t 3 0 0 t.s0 ∧ lookL t 0 = toldL t t.s0) := ⟨by unfold lookW lookL; rw [if_pos hth, if_pos hth]; exact ⟨rfl, rfl⟩⟩
   clear h hth hth2 hv0 hv1 hb0 hb1
   go_enter Tryz.func87, Tryz.ntmps87
   go_wp2_with fail
   refine (hasSeal_any b ad t w HP.out.blk 0).mono ?_
   rintro e w1 ⟨rfl, rfl⟩
   rw [hs]
   go_wp2_with fail
   refine (wtell_any HP.out 3 0 0 (fun bs => ⟨.inr (.inr (.inl ⟨rfl, rfl⟩)), rfl, rfl⟩) A0 n0 c0 t.s0 (fun w' O' M' ad' t' L' _ _ hN => (HB0.out.nx HP.out.sub hN).bs) HB0.out.fit hlen hr).mono ?_
   rintro e w2 ⟨A', n', c', ad', L', O', rfl, hP', hN', hB'⟩
   have HR : Kp _ := ⟨And.intro hP' (And.intro hN' hB')⟩
   clear hP' hN' hB'
   go_wp2
   go_ret
   rw [HT.out.1, HT.out.2]
   exact ⟨A', n', c', ad', L', O', rfl, HR.out⟩
  ·have HT : Kp (lookW t 1 = tellW t 3 1 0 t.s1 ∧ lookL t 1 = toldL t t.s1) := ⟨by unfold lookW lookL; rw [if_pos hth, if_pos hth]; exact ⟨rfl, rfl⟩⟩
   clear h hth hth2 hv0 hv1 hb0 hb1
   go_enter Tryz.func87, Tryz.ntmps87
   go_wp2_with fail
   refine (hasSeal_any b ad t w HP.out.blk 1).mono ?_
   rintro e w1 ⟨rfl, rfl⟩
   rw [hs]
   go_wp2_with fail
   refine (wtell_any HP.out 3 1 0 (fun bs => ⟨.inr (.inr (.inl ⟨rfl, rfl⟩)), rfl, rfl⟩) A1 n1 c1 t.s1 (fun w' O' M' ad' t' L' _ _ hN => (HB1.out.nx HP.out.sub hN).bs) HB1.out.fit hlen hr).mono ?_
   rintro e w2 ⟨A', n', c', ad', L', O', rfl, hP', hN', hB'⟩
   have HR : Kp _ := ⟨And.intro hP' (And.intro hN' hB')⟩
   clear hP' hN' hB'
   go_wp2
   go_ret
   rw [HT.out.1, HT.out.2]
   exact ⟨A', n', c', ad', L', O', rfl, HR.out⟩
 ·have hs : (!t.lost && (decide (0 ≤ i) && decide (i < 2))) = false := by
   have h1 := hth
   unfold sealW at h1
   simpa using h1
  have HT : Kp (lookW t i = t ∧ lookL t i = []) := ⟨by unfold lookW lookL; rw [if_neg hth, if_neg hth]; exact ⟨rfl, rfl⟩⟩
  clear h hth
  go_enter Tryz.func87, Tryz.ntmps87
  go_wp2_with fail
  refine (hasSeal_any b ad t w HP.out.blk i).mono ?_
  rintro e w1 ⟨rfl, rfl⟩
  rw [hs]
  go_wp2
  go_ret
  rw [HT.out.1, HT.out.2]
  exact ⟨none, 0, 0, ad, L, O, rfl, HP.out.stayO, HP.out.nx, BsM.zero _ _⟩
end
end Go.Proofs.YtcehkafddlfleaaGreatDoor

namespace Go.Proofs.YtcehkafddlfleaaGreatDoor
open Go.RowKit
def wroteL (t : Wd) (x : Int × Int) (l : List UInt8) : List UInt8 := laid (padL (l.take 272) 272) (t.sl x) (layK t 272)
def writeW (t : Wd) (x : Int × Int) (l : List UInt8) : Wd :=
 if thereW t x = true then { layW { t with tr := t.tr ++ [⟨2, x.1, x.2, l⟩] } 272 with sl := fun y => if y = x then wroteL t x l else t.sl y } else t
def writeB (t : Wd) (x : Int × Int) : Bool := thereW t x && decide (layK t 272 = 272)
theorem int_beq (a b : Nat) : ((a : Int) == (b : Int)) = decide (a = b) := by
 rw [Bool.eq_iff_iff]
 simp only [beq_iff_eq, decide_eq_true_eq]
 omega
theorem pad272 (l : List UInt8) : (padL (l.take 272) 272).length = 272 := by rw [padL_length]; simp; omega
section
variable {O M : Nat → Prop} {b : Nat} {ad : Ad} {t : Wd} {p : Int × Int → Option Nat} {L : List Hd4} {w w' : World}
theorem wrote_parts (h : Parts w O M b ad t p L) {x : Int × Int} {g : Nat} (hg : p x = some g) (h2 : Two6 b g w w') {n : Nat} {new : List UInt8} (hb : Blk w' b 108 (wdCells ad (layW t n))) (hk : Blk w' g 111 (cells8 new)) (hl : new.length = 272) :
  Parts w' O M b ad { layW t n with sl := fun y => if y = x then new else t.sl y } p L ∧ Nx w O w' O := by
 have hOg := h.slots.own x g hg
 have C : Chg O w w' := ⟨h2.os, h2.tape, h2.output, by rw [h2.size]; exact Nat.le_refl _, fun k _ hn => h2.block k (fun e => hn (e ▸ h.ob)) (fun e => hn (e ▸ hOg))⟩
 have hlt := fun k hk => h.lt k (h.sub k hk)
 have gr := (h.slots.blk x g hg).row
 have e1 : (layW t n).n = t.n ∧ (layW t n).s0 = t.s0 ∧ (layW t n).s1 = t.s1 ∧ (layW t n).lies = t.lies ∧ (layW t n).nl = t.nl ∧ (layW t n).tr = t.tr ∧ (layW t n).ctr = t.ctr ∧ (layW t n).reads = t.reads ∧ (layW t n).left ≤ 1000000 := by
  have hp := h.pow
  unfold layW
  split
  ·split
   ·refine ⟨rfl, rfl, rfl, rfl, rfl, rfl, rfl, rfl, ?_⟩
    simp only
    omega
   ·exact ⟨rfl, rfl, rfl, rfl, rfl, rfl, rfl, rfl, by simp⟩
  ·exact ⟨rfl, rfl, rfl, rfl, rfl, rfl, rfl, rfl, hp⟩
 obtain ⟨q1, q2, q3, q4, q5, q6, q7, q8, q9⟩ := e1
 refine ⟨⟨h.sub, fun k hk => Nat.lt_of_lt_of_le (h.lt k hk) C.size, h.ob, hb, ?_, ?_, ?_, ?_, ?_, by show (layW t n).n ≤ _; rw [q1]; exact h.big, q9, by show (layW t n).ctr < _; rw [q7]; exact h.num, by show (layW t n).reads ≤ _; rw [q8]; exact h.read, h.two⟩, Nx.same C hlt⟩
 ·show Sl w' O ad.ms (layW t n).n _ p
  rw [q1]
  have hms : w'.heap[ad.ms]? = w.heap[ad.ms]? := h2.block _ (fun e => (show IsMapB w ad.ms from h.slots.map.heap).ne h.blk.row e) (fun e => (show IsMapB w ad.ms from h.slots.map.heap).ne gr e)
  refine ⟨h.slots.om, h.slots.map.stay hms, h.slots.has, h.slots.own, fun y k hy => ?_, fun y k hy => ?_, h.slots.inj⟩
  ·by_cases hyx : y = x
   ·subst hyx
    rw [hg] at hy
    obtain rfl := Option.some.inj hy
    simp only [if_true]
    exact hk
   ·simp only [if_neg hyx]
    have hkg : k ≠ g := fun e => hyx (h.slots.inj y x k hy (e ▸ hg))
    exact ⟨(h2.block k ((h.slots.blk y k hy).row.ne h.blk.row (by decide)) hkg).trans (h.slots.blk y k hy).heap⟩
  ·by_cases hyx : y = x
   ·simp only [if_pos hyx]; exact hl
   ·simp only [if_neg hyx]; exact h.slots.len y k hy
 ·show Li w' O M ad.ml (layW t n).lies (layW t n).nl
  rw [q4, q5]
  exact h.lies.stay (fun _ h => h) (fun k _ hkk => h2.block k (hkk.ne h.blk.row) (hkk.ne gr)) C h.sub (fun _ h => .inl h)
 ·show BsV w' M ad.v0 (layW t n).s0
  rw [q2]; exact h.seal0.chg C h.sub (fun _ h => .inl h)
 ·show BsV w' M ad.v1 (layW t n).s1
  rw [q3]; exact h.seal1.chg C h.sub (fun _ h => .inl h)
 ·show Tc w' O M ad.vt (layW t n).tr L
  rw [q6]
  exact h.trace.stay (fun _ h => h) (fun k _ hkk => h2.block k (hkk.ne h.blk.row (by decide)) (hkk.ne gr (by decide))) C h.sub (fun _ h => .inl h)
set_option maxRecDepth 100000 in
set_option maxHeartbeats 1000000 in
theorem wwrite_any (h : Parts w O M b ad t p L) (x y : Int) (hx : okP (x, y)) (A : Option Addr) (n c : Nat) (l : List UInt8) (ha : BsM w M A n c l) (hlen : t.tr.length ≤ 1000000) :
  Calls Tryz.prog 141 #[.pointer (some ⟨b, 0, none⟩), .int .i64 x, .int .i64 y, .slice A n c] w fun e w' => ∃ ad' L' O', e = .returned (.bool (writeB t (x, y))) ∧ Parts w' O' (Or2 M O') b ad' (writeW t (x, y) l) p L' ∧ Nx w O w' O' := by
 have HP : Kp _ := ⟨h⟩
 have HX : Kp _ := ⟨hx⟩
 have HA : Kp _ := ⟨ha⟩
 have hn := ha.fit
 by_cases hth : thereW t (x, y) = true
 ·obtain ⟨g, hg, hs⟩ := slot_there h hth
  have HG : Kp _ := ⟨hg⟩
  have HT : Kp (writeW t (x, y) l = { layW { t with tr := t.tr ++ [⟨2, x, y, l⟩] } 272 with sl := fun z => if z = (x, y) then wroteL t (x, y) l else t.sl z } ∧ writeB t (x, y) = decide (layK t 272 = 272)) := ⟨by unfold writeW writeB; rw [if_pos hth, hth]; exact ⟨rfl, rfl⟩⟩
  clear h hx ha hth hg
  go_enter Tryz.func141, Tryz.ntmps141
  go_wp2_with fail
  refine (wslot_any HP.out x y HX.out).mono ?_
  rintro e w1 ⟨rfl, rfl⟩
  rw [hs]
  go_wp2_with fail
  refine (note_any HP.out ⟨2, x, y, l⟩ ⟨.inr (.inl rfl), HX.out.1, HX.out.2⟩ A n c HA.out.bs hn hlen).mono ?_
  rintro e w2 ⟨rfl, ad2, L2, O2, P2, N2⟩
  have HP2 : Kp _ := ⟨P2⟩
  have HA2 : Kp _ := ⟨HA.out.nx HP.out.sub N2⟩
  have HN2 : Kp _ := ⟨N2⟩
  obtain ⟨k, hk⟩ : ∃ k, k = min n 272 := ⟨_, rfl⟩
  have hkn : k ≤ n := by omega
  have HTk : Kp (l.take k = l.take 272) := ⟨by
   have hl := HA.out.bs.len
   rcases Nat.le_total n 272 with h1 | h1
   ·rw [List.take_of_length_le (by omega), List.take_of_length_le (by omega)]
   ·rw [hk, Nat.min_eq_right h1]⟩
  have HK : Kp _ := ⟨hk⟩
  have HCut : Kp _ := ⟨(HA2.out.cutH hkn)⟩
  clear P2 N2 hk
  rcases (by have := HK.out; omega : ((n : Int) ≤ 272 ∧ k = n) ∨ (272 < (n : Int) ∧ k = 272)) with ⟨hc, hkk⟩ | ⟨hc, hkk⟩
  ·have HKK : Kp _ := ⟨hkk⟩
   clear hkk
   go_wp2_with (with_reducible refine wpList_cut_h (o := ⟨some 26, _, _, _, _, _⟩) el8 rfl (.tmp 22) (.tmp 25) rfl rfl HA2.out.bs .i64 _ k rfl (by have := HKK.out; omega) hkn ?_)
   intro A3 hb3
   have HB3 : Kp _ := ⟨hb3⟩
   clear hb3 hc HKK
   go_wp2_with fail
   refine (pad6_any A3 k c 272 (l.take k) w2 HB3.out (by omega) (by omega)).mono ?_
   rw [HTk.out, pad272 l]
   rintro e w3 ⟨rfl, hk3, hb3⟩
   have P3 := HP2.out.below hb3
   have HP3 : Kp _ := ⟨P3⟩
   have HN3 : Kp _ := ⟨HN2.out.below hb3⟩
   have HK3 : Kp _ := ⟨hk3⟩
   have hbg : b ≠ g := P3.blk.row.ne (P3.slots.blk _ g HG.out).row (by decide)
   have hblt : b < w2.heap.size := HP2.out.blk.lt
   have hglt : g < w2.heap.size := (HP2.out.slots.blk _ g HG.out).lt
   have HTs : Kp (BsT w3 b g (some ⟨w2.heap.size, 0, none⟩) 272 272 (padL (l.take 272) 272)) := ⟨⟨hk3.bytes (o := 0) hk3.lt (by rw [List.drop_zero, List.take_of_length_le (by rw [cells8_length, pad272]; exact Nat.le_refl _)]) (pad272 l) 272 (Nat.le_refl _) (by simp only [maxLen]; omega), fun ad hA _ => by
    obtain rfl := Option.some.inj hA
    exact ⟨by simp; omega, by simp; omega⟩⟩⟩
   have HD3 : Kp (Blk w3.drew b 108 (wdCells ad2 { t with tr := t.tr ++ [⟨2, x, y, l⟩] }) ∧ Blk w3.drew g 111 (cells8 (t.sl (x, y))) ∧ BsT w3.drew b g (some ⟨w2.heap.size, 0, none⟩) 272 272 (padL (l.take 272) 272)) := ⟨P3.blk.drew, (P3.slots.blk _ g HG.out).drew, ⟨HTs.out.bs.drew, HTs.out.apart⟩⟩
   have HL3 : Kp ((t.sl (x, y)).length = 272) := ⟨P3.slots.len _ g HG.out⟩
   have HPd : Kp _ := ⟨P3.below (Below.refl w3.heap.size w3).drew⟩
   have HNd : Kp _ := ⟨HN3.out.below (Below.refl w3.heap.size w3).drew⟩
   have hsl := contents_slice g
   clear P3 hb3 hk3 HK3 HTs HP3 HN3
   go_wp2_with fail
   refine wp_region_any (by kernel_rfl) ?_
   change wpAny _ _ _ _ _ _ _ w3.drew
   generalize w3.drew = wS at *
   refine wT 0 28 ?_ rfl ?_
   try simp only [Act.put, sA, sB, sC]
   refine wT 1 29 ?_ rfl ?_
   try simp only [Act.put, sA, sB, sC]
   refine wT 2 30 ?_ rfl ?_
   try simp only [Act.put, sA, sB, sC]
   refine wT 3 31 ?_ rfl ?_
   try simp only [Act.put, sA, sB, sC]
   refine wT 4 32 ?_ rfl ?_
   try simp only [Act.put, sA, sB, sC]
   refine wT 5 33 ?_ rfl ?_
   try simp only [Act.put, sA, sB, sC]
   refine wT 6 34 ?_ rfl ?_
   try simp only [Act.put, sA, sB, sC]
   refine wT 8 36 ?_ rfl ?_
   try simp only [Act.put, sA, sB, sC]
   refine wT 9 37 ?_ rfl ?_
   try simp only [Act.put, sA, sB, sC]
   refine rK [7] ?_
   refine aR 35 rfl fun K hK => ?_
   go_simp
   refine (lay_any b g hbg ad2 { t with tr := t.tr ++ [⟨2, x, y, l⟩] } 111 (some ⟨w2.heap.size, 0, none⟩) 272 272 272 272 (padL (l.take 272) 272) (t.sl (x, y)) wS HD3.out.1 HPd.out.pow HD3.out.2.1 HL3.out HD3.out.2.2 (Nat.le_refl _) (by omega)).mono ?_
   rintro e w61 ⟨rfl, hbq, hgq, h2q⟩
   have HR : Kp _ := ⟨wrote_parts HPd.out HG.out h2q hbq hgq (by rw [laid_length _ _ _ (by rw [pad272]; exact layK_le _ _) (by rw [HL3.out]; exact layK_le _ _)]; exact HL3.out)⟩
   clear hbq hgq h2q
   refine hK _ _ ?_
   clear hK K
   try simp only [Act.put, sA, sB, sC]
   refine wT 10 38 ?_ rfl ?_
   try simp only [Act.put, sA, sB, sC]
   refine wT 11 8 ?_ rfl ?_
   try simp only [Act.put, sA, sB, sC]
   refine wpAny_done (by kernel_rfl) ?_ _
   go_wp2
   go_ret
   rw [HT.out.1, HT.out.2]
   refine ⟨?_, ad2, L2, O2, HR.out.1, HNd.out.trans HR.out.2⟩
   show Ending.returned (.bool (((layK t 272 : Nat) : Int) == ((272 : Nat) : Int))) = _
   rw [int_beq]
  ·have HKK : Kp _ := ⟨hkk⟩
   clear hkk
   go_wp2_with (with_reducible refine wpList_cut_h (o := ⟨some 26, _, _, _, _, _⟩) el8 rfl (.tmp 22) (.tmp 25) rfl rfl HA2.out.bs .i64 _ k rfl (by have := HKK.out; omega) hkn ?_)
   intro A3 hb3
   have HB3 : Kp _ := ⟨hb3⟩
   clear hb3 hc HKK
   go_wp2_with fail
   refine (pad6_any A3 k c 272 (l.take k) w2 HB3.out (by omega) (by omega)).mono ?_
   rw [HTk.out, pad272 l]
   rintro e w3 ⟨rfl, hk3, hb3⟩
   have P3 := HP2.out.below hb3
   have HP3 : Kp _ := ⟨P3⟩
   have HN3 : Kp _ := ⟨HN2.out.below hb3⟩
   have HK3 : Kp _ := ⟨hk3⟩
   have hbg : b ≠ g := P3.blk.row.ne (P3.slots.blk _ g HG.out).row (by decide)
   have hblt : b < w2.heap.size := HP2.out.blk.lt
   have hglt : g < w2.heap.size := (HP2.out.slots.blk _ g HG.out).lt
   have HTs : Kp (BsT w3 b g (some ⟨w2.heap.size, 0, none⟩) 272 272 (padL (l.take 272) 272)) := ⟨⟨hk3.bytes (o := 0) hk3.lt (by rw [List.drop_zero, List.take_of_length_le (by rw [cells8_length, pad272]; exact Nat.le_refl _)]) (pad272 l) 272 (Nat.le_refl _) (by simp only [maxLen]; omega), fun ad hA _ => by
    obtain rfl := Option.some.inj hA
    exact ⟨by simp; omega, by simp; omega⟩⟩⟩
   have HD3 : Kp (Blk w3.drew b 108 (wdCells ad2 { t with tr := t.tr ++ [⟨2, x, y, l⟩] }) ∧ Blk w3.drew g 111 (cells8 (t.sl (x, y))) ∧ BsT w3.drew b g (some ⟨w2.heap.size, 0, none⟩) 272 272 (padL (l.take 272) 272)) := ⟨P3.blk.drew, (P3.slots.blk _ g HG.out).drew, ⟨HTs.out.bs.drew, HTs.out.apart⟩⟩
   have HL3 : Kp ((t.sl (x, y)).length = 272) := ⟨P3.slots.len _ g HG.out⟩
   have HPd : Kp _ := ⟨P3.below (Below.refl w3.heap.size w3).drew⟩
   have HNd : Kp _ := ⟨HN3.out.below (Below.refl w3.heap.size w3).drew⟩
   have hsl := contents_slice g
   clear P3 hb3 hk3 HK3 HTs HP3 HN3
   go_wp2_with fail
   refine wp_region_any (by kernel_rfl) ?_
   change wpAny _ _ _ _ _ _ _ w3.drew
   generalize w3.drew = wS at *
   refine wT 0 28 ?_ rfl ?_
   try simp only [Act.put, sA, sB, sC]
   refine wT 1 29 ?_ rfl ?_
   try simp only [Act.put, sA, sB, sC]
   refine wT 2 30 ?_ rfl ?_
   try simp only [Act.put, sA, sB, sC]
   refine wT 3 31 ?_ rfl ?_
   try simp only [Act.put, sA, sB, sC]
   refine wT 4 32 ?_ rfl ?_
   try simp only [Act.put, sA, sB, sC]
   refine wT 5 33 ?_ rfl ?_
   try simp only [Act.put, sA, sB, sC]
   refine wT 6 34 ?_ rfl ?_
   try simp only [Act.put, sA, sB, sC]
   refine wT 8 36 ?_ rfl ?_
   try simp only [Act.put, sA, sB, sC]
   refine wT 9 37 ?_ rfl ?_
   try simp only [Act.put, sA, sB, sC]
   refine rK [7] ?_
   refine aR 35 rfl fun K hK => ?_
   go_simp
   refine (lay_any b g hbg ad2 { t with tr := t.tr ++ [⟨2, x, y, l⟩] } 111 (some ⟨w2.heap.size, 0, none⟩) 272 272 272 272 (padL (l.take 272) 272) (t.sl (x, y)) wS HD3.out.1 HPd.out.pow HD3.out.2.1 HL3.out HD3.out.2.2 (Nat.le_refl _) (by omega)).mono ?_
   rintro e w61 ⟨rfl, hbq, hgq, h2q⟩
   have HR : Kp _ := ⟨wrote_parts HPd.out HG.out h2q hbq hgq (by rw [laid_length _ _ _ (by rw [pad272]; exact layK_le _ _) (by rw [HL3.out]; exact layK_le _ _)]; exact HL3.out)⟩
   clear hbq hgq h2q
   refine hK _ _ ?_
   clear hK K
   try simp only [Act.put, sA, sB, sC]
   refine wT 10 38 ?_ rfl ?_
   try simp only [Act.put, sA, sB, sC]
   refine wT 11 8 ?_ rfl ?_
   try simp only [Act.put, sA, sB, sC]
   refine wpAny_done (by kernel_rfl) ?_ _
   go_wp2
   go_ret
   rw [HT.out.1, HT.out.2]
   refine ⟨?_, ad2, L2, O2, HR.out.1, HNd.out.trans HR.out.2⟩
   show Ending.returned (.bool (((layK t 272 : Nat) : Int) == ((272 : Nat) : Int))) = _
   rw [int_beq]
 ·have hs := slot_none h hth
  have HT : Kp (writeW t (x, y) l = t ∧ writeB t (x, y) = false) := ⟨by unfold writeW writeB; rw [if_neg hth, show thereW t (x, y) = false by simpa using hth]; exact ⟨rfl, rfl⟩⟩
  clear h hx hth ha
  go_enter Tryz.func141, Tryz.ntmps141
  go_wp2_with fail
  refine (wslot_any HP.out x y HX.out).mono ?_
  rintro e w1 ⟨rfl, rfl⟩
  rw [hs]
  go_wp2
  go_ret
  rw [HT.out.1, HT.out.2]
  exact ⟨ad, L, O, rfl, HP.out.stayO, HP.out.nx⟩
end
end Go.Proofs.YtcehkafddlfleaaGreatDoor

namespace Go.Proofs.YtcehkafddlfleaaGreatDoor
open Go.RowKit
section
variable {O M : Nat → Prop} {b : Nat} {ad : Ad} {t : Wd} {p : Int × Int → Option Nat} {L : List Hd4} {w : World}
def ctrW (t : Wd) : Nat := if t.lost = true then 0 else t.ctr
set_option maxHeartbeats 400000 in
theorem counter_any (h : Parts w O M b ad t p L) :
  Calls Tryz.prog 82 #[.pointer (some ⟨b, 0, none⟩)] w fun e w' => e = .returned (.int .u64 (ctrW t : Int)) ∧ w' = w := by
 have c3 : w.cell? ⟨b, 3, none⟩ = some (.int .u64 (t.ctr : Int)) := by rw [h.blk.cell? 3]; rfl
 have HP : Kp _ := ⟨h⟩
 clear h
 cases hl : t.lost
 ·have HT : Kp (ctrW t = t.ctr) := ⟨by unfold ctrW; rw [hl]; rfl⟩
  go_enter Tryz.func82, Tryz.ntmps82
  go_wp2_with fail
  refine (runs_any b ad t w HP.out.blk).mono ?_
  rintro e w1 ⟨rfl, rfl⟩
  rw [hl]
  go_wp2
  go_ret
  exact ⟨by rw [HT.out]; rfl, rfl⟩
 ·have HT : Kp (ctrW t = 0) := ⟨by unfold ctrW; rw [hl]; rfl⟩
  go_enter Tryz.func82, Tryz.ntmps82
  go_wp2_with fail
  refine (runs_any b ad t w HP.out.blk).mono ?_
  rintro e w1 ⟨rfl, rfl⟩
  rw [hl]
  go_wp2
  go_ret
  exact ⟨by rw [HT.out]; rfl, rfl⟩
end
end Go.Proofs.YtcehkafddlfleaaGreatDoor

namespace Go.Proofs.YtcehkafddlfleaaGreatDoor
open Go.RowKit
section
variable {O M : Nat → Prop} {b : Nat} {ad : Ad} {t : Wd} {p : Int × Int → Option Nat} {L : List Hd4} {w : World}
def bumpB (t : Wd) : Bool := !t.lost && (decide (t.ctr < 18446744073709551615) && takeOk t)
def bumpW (t : Wd) : Wd := if t.lost = true then t else if 18446744073709551615 ≤ t.ctr then t else if takeOk t = true then { takeW t with ctr := t.ctr + 1, tr := t.tr ++ [⟨5, 0, 0, []⟩] } else takeW t
theorem takeW_same (t : Wd) : (takeW t).n = t.n ∧ (takeW t).sl = t.sl ∧ (takeW t).s0 = t.s0 ∧ (takeW t).s1 = t.s1 ∧ (takeW t).lies = t.lies ∧ (takeW t).nl = t.nl ∧ (takeW t).tr = t.tr ∧ (takeW t).ctr = t.ctr ∧ (takeW t).reads = t.reads := by
 unfold takeW
 split
 ·split <;> exact ⟨rfl, rfl, rfl, rfl, rfl, rfl, rfl, rfl, rfl⟩
 ·exact ⟨rfl, rfl, rfl, rfl, rfl, rfl, rfl, rfl, rfl⟩
theorem took_parts {w' : World} (h : Parts w O M b ad t p L) (hb : Blk w' b 108 (wdCells ad (takeW t))) (ho : Only b w w') : Parts w' O M b ad (takeW t) p L ∧ Nx w O w' O := by
 obtain ⟨q1, q2, q3, q4, q5, q6, q7, q8, q9⟩ := takeW_same t
 exact ⟨h.own ho hb q1 q2 q3 q4 q5 q6 q7 (takeW_left t h.pow) (by rw [q8]; exact h.num) (by rw [q9]; exact h.read), Nx.only ho h.ob (fun k hk => h.lt k (h.sub k hk))⟩
theorem ctr_parts (h : Parts w O M b ad t p L) (n : Nat) (hn : n < 18446744073709551616) : Parts (w.setCell ⟨b, 3, none⟩ (.int .u64 (n : Int))) O M b ad { t with ctr := n } p L ∧ Nx w O (w.setCell ⟨b, 3, none⟩ (.int .u64 (n : Int))) O := by
 have ho := Only.setCell w ⟨b, 3, none⟩ (.int .u64 (n : Int))
 exact ⟨h.own ho (h.blk.set 3 _) rfl rfl rfl rfl rfl rfl rfl h.pow hn h.read, Nx.only ho h.ob (fun k hk => h.lt k (h.sub k hk))⟩
set_option maxRecDepth 100000 in
set_option maxHeartbeats 1000000 in
theorem bump_any (h : Parts w O M b ad t p L) (hlen : t.tr.length ≤ 1000000) :
  Calls Tryz.prog 137 #[.pointer (some ⟨b, 0, none⟩)] w fun e w' => e = .returned (.bool (bumpB t)) ∧ ∃ ad' L' O', Parts w' O' (Or2 M O') b ad' (bumpW t) p L' ∧ Nx w O w' O' := by
 have c3 : w.cell? ⟨b, 3, none⟩ = some (.int .u64 (t.ctr : Int)) := by rw [h.blk.cell? 3]; rfl
 have HP : Kp _ := ⟨h⟩
 have hnum := h.num
 clear h
 cases hl : t.lost
 ·by_cases hc : 18446744073709551615 ≤ t.ctr
  ·have HT : Kp (bumpW t = t ∧ bumpB t = false) := ⟨by unfold bumpW bumpB; rw [hl, if_neg (by decide), if_pos hc, decide_eq_false (by omega)]; exact ⟨rfl, rfl⟩⟩
   have he : ((t.ctr : Int) == 18446744073709551615) = true := by rw [beq_iff_eq]; omega
   have HC : Kp _ := ⟨And.intro hc hnum⟩
   clear hc hnum
   go_enter Tryz.func137, Tryz.ntmps137
   go_wp2_with fail
   refine (runs_any b ad t w HP.out.blk).mono ?_
   rintro e w1 ⟨rfl, rfl⟩
   rw [hl]
   go_wp2
   go_ret
   rw [HT.out.1, HT.out.2]
   exact ⟨rfl, ad, L, O, HP.out.stayO, HP.out.nx⟩
  ·have he : ((t.ctr : Int) == 18446744073709551615) = false := by rw [beq_eq_false_iff_ne]; omega
   cases htk : takeOk t
   ·have HT : Kp (bumpW t = takeW t ∧ bumpB t = false) := ⟨by unfold bumpW bumpB; rw [hl, if_neg (by decide), if_neg hc, if_neg (by rw [htk]; decide), htk]; simp⟩
    have HC : Kp _ := ⟨And.intro hc hnum⟩
    clear hc hnum
    go_enter Tryz.func137, Tryz.ntmps137
    go_wp2_with fail
    refine (runs_any b ad t w HP.out.blk).mono ?_
    rintro e w1 ⟨rfl, rfl⟩
    rw [hl]
    go_wp2_with fail
    refine (take_any b ad t w1 HP.out.blk HP.out.pow).mono ?_
    rintro e w2 ⟨rfl, hb2, ho2⟩
    have HR : Kp _ := ⟨took_parts HP.out hb2 ho2⟩
    clear hb2 ho2 c3
    rw [htk]
    go_wp2
    go_ret
    rw [HT.out.1, HT.out.2]
    exact ⟨rfl, ad, L, O, HR.out.1.stayO, HR.out.2⟩
   ·have HT : Kp (bumpW t = { takeW t with ctr := t.ctr + 1, tr := t.tr ++ [⟨5, 0, 0, []⟩] } ∧ bumpB t = true) := ⟨by unfold bumpW bumpB; rw [hl, if_neg (by decide), if_neg hc, if_pos htk, htk, decide_eq_true (by omega)]; exact ⟨rfl, rfl⟩⟩
    have HC : Kp (t.ctr + 1 < 18446744073709551616) := ⟨by omega⟩
    have hw : IntKind.u64.wrap ((t.ctr : Int) + 1) = ((t.ctr + 1 : Nat) : Int) := by
     rw [show (t.ctr : Int) + 1 = ((t.ctr + 1 : Nat) : Int) by omega, wrap_u64_nat, Nat.mod_eq_of_lt HC.out]
    clear hc hnum
    go_enter Tryz.func137, Tryz.ntmps137
    go_wp2_with fail
    refine (runs_any b ad t w HP.out.blk).mono ?_
    rintro e w1 ⟨rfl, rfl⟩
    rw [hl]
    go_wp2_with fail
    refine (take_any b ad t w1 HP.out.blk HP.out.pow).mono ?_
    rintro e w2 ⟨rfl, hb2, ho2⟩
    have HR : Kp _ := ⟨took_parts HP.out hb2 ho2⟩
    have d3 : w2.cell? ⟨b, 3, none⟩ = some (.int .u64 (t.ctr : Int)) := by rw [hb2.cell? 3]; show some (Value.int .u64 ((takeW t).ctr : Int)) = _; rw [(takeW_same t).2.2.2.2.2.2.2.1]
    have f3 := hb2.frozen 3
    have HR3 : Kp _ := ⟨ctr_parts HR.out.1 (t.ctr + 1) HC.out⟩
    clear hb2 ho2 c3
    rw [htk]
    go_wp2_with fail
    refine (note_any HR3.out.1 ⟨5, 0, 0, []⟩ ⟨.inr (.inr (.inr (.inr ⟨rfl, rfl, rfl, rfl⟩))), rfl, rfl⟩ none 0 0 (Bs.zero _ _) (by omega) (by rw [(takeW_same t).2.2.2.2.2.2.1]; exact hlen)).mono ?_
    rintro e w4 ⟨rfl, ad4, L4, O4, P4, N4⟩
    have HP4 : Kp _ := ⟨P4⟩
    have HN4 : Kp _ := ⟨HR.out.2.trans (HR3.out.2.trans N4)⟩
    clear P4 N4
    go_wp2
    go_ret
    rw [HT.out.1, HT.out.2]
    refine ⟨rfl, ad4, L4, O4, ?_, HN4.out⟩
    have h4 := HP4.out
    rw [(takeW_same t).2.2.2.2.2.2.1] at h4
    exact h4
 ·have HT : Kp (bumpW t = t ∧ bumpB t = false) := ⟨by unfold bumpW bumpB; rw [hl]; exact ⟨rfl, rfl⟩⟩
  go_enter Tryz.func137, Tryz.ntmps137
  go_wp2_with fail
  refine (runs_any b ad t w HP.out.blk).mono ?_
  rintro e w1 ⟨rfl, rfl⟩
  rw [hl]
  go_wp2
  go_ret
  rw [HT.out.1, HT.out.2]
  exact ⟨rfl, ad, L, O, HP.out.stayO, HP.out.nx⟩
end
end Go.Proofs.YtcehkafddlfleaaGreatDoor

namespace Go.Proofs.YtcehkafddlfleaaGreatDoor
open Go.RowKit
section
variable {P : Program} {w : World} {k t e : TypeId} {κ : Type} {kv : κ → Value} {ok : κ → Prop} {b n : Nat} {f : κ → Option Value} {ops : Array Oper} {o : Oper} {a : Act} {Q : Exit → Act → World → Prop}
theorem step_storeI [DecidableEq κ] {K : Act → World → Prop} {C : Prop} (h : MapI w P k kv ok b n f) (T : KeyT P k kv ok) (hgd : o.guard = none) (m y v : Operand) (hop : o.op = Op.mapUpdate t m y v) (ht : P.underlying t = some (.map k e)) (hn : n < maxLen)
  (hm : a.eval m = .map (some b)) (x : κ) (hx : ok x) (hy : a.eval y = kv x) {u : Value} (hv : a.eval v = u)
  (hK : ∀ w', MapI w' P k kv ok b (if (f x).isSome then n else n + 1) (fun y => if y = x then some u else f y) → Only b w w' → K (a.put o.dst undef) w') :
  if Region.wanted o (yielded ops a.tmps) = true then Oper.wp P o a w K Q else C := by
 have hw : Region.wanted o (yielded ops a.tmps) = true := by simp [Region.wanted, hgd]
 rw [if_pos hw]
 obtain ⟨w', hr, h1, h2⟩ := h.store T ht hn hx u
 unfold Oper.wp
 simp [execOp, hop, hm, hy, hv, hr, Result.andThen]
 exact hK w' h1 h2
end
section
variable {O M : Nat → Prop} {b : Nat} {ad : Ad} {t : Wd} {p : Int × Int → Option Nat} {L : List Hd4} {w : World}
end
end Go.Proofs.YtcehkafddlfleaaGreatDoor
