/- The contracts of atomic's Add and Load, and of world's tell. -/
import Derived.Test.YtalnbomnmmefgaaNote
import Derived.Laws.LoneSync
namespace Go.Proofs.Ytalnbomnmmefgaa
open Go.RowKit

set_option maxHeartbeats 400000 in
theorem add_any (b : Nat) (ad : Ad) (t : Wd) (w : World) (hb : Blk w b 75 (wdCells ad t)) (hr : t.reads ≤ 1000000) :
    Calls Try.prog 52 #[.pointer (some ⟨b, 7, none⟩), .int .i64 1] w fun e w' => e = .returned (.int .i64 ((t.reads : Int) + 1)) ∧ w' = w.setCell ⟨b, 7, none⟩ (.int .i64 ((t.reads : Int) + 1)) := by
  have c7 : w.cell? ⟨b, 7, none⟩ = some (.int .i64 (t.reads : Int)) := by rw [hb.cell? 7]; rfl
  have hadd := run_call_add (P := Try.prog) Try.func62 (by kernel_rfl) (by kernel_rfl) (by kernel_rfl) .i64 (by kernel_rfl) (y := 1) (s := (t.reads : Int) + 1) c7 (hb.frozen 7) (by simp [go_sem, IntKind.wrap_i64]; omega)
  clear hb
  go_enter Try.func52, Try.ntmps52
  go_wp2
  go_ret
  exact ⟨rfl, rfl⟩
set_option maxHeartbeats 400000 in
theorem load_any (b : Nat) (ad : Ad) (t : Wd) (w : World) (hb : Blk w b 75 (wdCells ad t)) :
    Calls Try.prog 38 #[.pointer (some ⟨b, 7, none⟩)] w fun e w' => e = .returned (.int .i64 (t.reads : Int)) ∧ w' = w := by
  have c7 : w.cell? ⟨b, 7, none⟩ = some (.int .i64 (t.reads : Int)) := by rw [hb.cell? 7]; rfl
  have hload := run_call_load (P := Try.prog) Try.func53 (by kernel_rfl) (by kernel_rfl) (by kernel_rfl) .i64 (by kernel_rfl) c7
  clear hb
  go_enter Try.func38, Try.ntmps38
  go_wp2
  go_ret
  exact ⟨rfl, rfl⟩

def toldL (t : Wd) (l : List UInt8) : List UInt8 := (t.lies t.reads).getD l
def tellW (t : Wd) (kd pl sl : Int) (l : List UInt8) : Wd := { t with reads := t.reads + 1, lies := fun z => if z = (t.reads : Int) then none else t.lies z, tr := t.tr ++ [⟨kd, pl, sl, toldL t l⟩] }

theorem Parts.reflies {O M : Nat → Prop} {b : Nat} {ad : Ad} {t : Wd} {p : Int × Int → Option Nat} {L : List Hd4} {w : World} (h : Parts w O M b ad t p L) (lies' : Int → Option (List UInt8)) (he : ∀ z, okI z → lies' z = t.lies z) : Parts w O M b ad { t with lies := lies' } p L :=
  ⟨h.sub, h.lt, h.ob, h.blk, h.slots, h.lies.congr he, h.seal0, h.seal1, h.trace, h.big, h.pow, h.num, h.read, h.two⟩
theorem Nx.below {O O' : Nat → Prop} {w w' w2 : World} (h : Nx w O w' O') (hb : Below w'.heap.size w' w2) : Nx w O w2 O' :=
  ⟨h.chg.thenBelow hb, h.sub, h.new, fun k hk => Nat.lt_of_lt_of_le (h.lt k hk) hb.size⟩
theorem Nx.only {O : Nat → Prop} {w w' : World} {g : Nat} (ho : Only g w w') (hg : O g) (h : ∀ k, O k → k < w.heap.size) : Nx w O w' O := Nx.same (Chg.of_only ho hg) h
theorem or2_or2 {M O O2 : Nat → Prop} (h : ∀ k, O k → O2 k) : ∀ k, Or2 (Or2 M O) O2 k ↔ Or2 M O2 k := fun k => by
  unfold Or2
  exact ⟨fun x => x.elim (fun y => y.elim .inl (fun z => .inr (h k z))) .inr, fun x => x.elim (fun y => .inl (.inl y)) .inr⟩

set_option maxRecDepth 100000 in
set_option maxHeartbeats 1000000 in
theorem tell_any {O M : Nat → Prop} {b : Nat} {ad : Ad} {t : Wd} {p : Int × Int → Option Nat} {L : List Hd4} {w : World} (h : Parts w O M b ad t p L) (kd pl sl : Int) (hk : ∀ bs, TrOk ⟨kd, pl, sl, bs⟩) (A : Option Addr) (n c : Nat) (l : List UInt8)
    (hkeep : ∀ w' O' M' ad' t' L', Parts w' O' M' b ad' t' p L' → t'.sl = t.sl → Nx w O w' O' → Bs w' w'.heap.size A n c l) (hn : n ≤ 4294967296) (hlen : t.tr.length ≤ 1000000) (hr : t.reads ≤ 1000000) :
    Calls Try.prog 37 #[.pointer (some ⟨b, 0, none⟩), .int .i64 kd, .int .i64 pl, .int .i64 sl, .slice A n c] w fun e w' => ∃ A' n' c' ad' L' O', e = .returned (.slice A' n' c') ∧ Parts w' O' (Or2 M O') b ad' (tellW t kd pl sl l) p L' ∧ Nx w O w' O' ∧ BsM w' (Or2 M O') A' n' c' (toldL t l) := by
  have HP : Kp _ := ⟨h⟩
  have HK : Kp _ := ⟨hk⟩
  have HE : Kp _ := ⟨hkeep⟩
  have HZ : Kp (okI (t.reads : Int)) := ⟨by unfold okI; exact WalkArith.wf_i64 (by omega)⟩
  have HLen : Kp _ := ⟨hlen⟩
  clear h hk hkeep hlen
  go_enter Try.func37, Try.ntmps37
  go_wp2_with fail
  refine (add_any b ad t w HP.out.blk hr).mono ?_
  rintro e w1 ⟨rfl, rfl⟩
  have HO1 := Only.setCell w ⟨b, 7, none⟩ (.int .i64 ((t.reads : Int) + 1))
  have P1 : Parts (w.setCell ⟨b, 7, none⟩ (.int .i64 ((t.reads : Int) + 1))) O M b ad { t with reads := t.reads + 1 } p L :=
    HP.out.own HO1 (HP.out.blk.set 7 _) rfl rfl rfl rfl rfl rfl rfl HP.out.pow HP.out.num (by simp; omega)
  have N1 : Nx w O (w.setCell ⟨b, 7, none⟩ (.int .i64 ((t.reads : Int) + 1))) O := Nx.only HO1 HP.out.ob (fun k hk => HP.out.lt k (HP.out.sub k hk))
  generalize w.setCell ⟨b, 7, none⟩ (.int .i64 ((t.reads : Int) + 1)) = w1 at *
  have HP1 : Kp _ := ⟨P1⟩
  have HN1 : Kp _ := ⟨N1⟩
  have c8 : w1.cell? ⟨b, 8, none⟩ = some (.map ad.ml) := by rw [P1.blk.cell? 8]; rfl
  have hsub : wrap64 ((t.reads : Int) + 1 - 1) = (t.reads : Int) := by unfold wrap64; omega
  have hsub2 : wrap64 (t.reads : Int) = (t.reads : Int) := by unfold wrap64; omega
  have hz : (zeroValue 22).run Try.prog w1 = .ok (.slice none 0 0) w1 := by kernel_rfl
  have HZv : Kp _ := ⟨hz⟩
  clear HO1 N1 HP hz
  rcases P1.lies with ⟨hml, hno⟩ | ⟨g, m, f, hml, hOg, hI, hm, hf⟩
  · rw [hml] at c8
    have HNone : Kp (t.lies t.reads = none) := ⟨hno _ HZ.out⟩
    have P2 := P1.reflies (fun z => if z = (t.reads : Int) then none else t.lies z) (fun z hz => by
      by_cases e : z = (t.reads : Int)
      · rw [e]; simp [HNone.out]
      · simp [e])
    have HP2 : Kp _ := ⟨P2⟩
    clear P1 P2 hno hml
    go_wp2_with (with_reducible refine wpList_lookI_nil (o := ⟨some 27, _, _, _, _, _⟩) keyI rfl (.tmp 25) (.tmp 26) rfl Try.underlying73 HZv.out rfl (t.reads : Int) HZ.out rfl ?_)
    go_wp2_with fail
    refine (note_any HP2.out ⟨kd, pl, sl, l⟩ (HK.out l) A n c (HE.out _ _ _ _ _ _ HP2.out rfl HN1.out) hn HLen.out).mono ?_
    rintro e w3 ⟨rfl, ad3, L3, O3, P3, N3⟩
    have HP3 : Kp _ := ⟨P3⟩
    have HN3 : Kp _ := ⟨HN1.out.trans N3⟩
    clear P3 N3
    go_wp2_with fail
    refine (clone_any A n c l w3 (HE.out _ _ _ _ _ _ HP3.out rfl HN3.out) hn).mono ?_
    rintro e w4 ⟨v, rfl, ho4, hb4⟩
    obtain ⟨A4, c4, rfl, hbs4⟩ := BsM.of_own (M := Or2 M O3) ho4 HP3.out.lt hn
    have HB4 : Kp _ := ⟨And.intro hb4 hbs4⟩
    clear ho4 hb4 hbs4
    go_wp2
    go_ret
    have e1 : toldL t l = l := by unfold toldL; rw [HNone.out]; rfl
    refine ⟨A4, n, c4, ad3, L3, O3, rfl, ?_, HN3.out.below HB4.out.1, by rw [e1]; exact HB4.out.2⟩
    unfold tellW
    rw [e1]
    exact HP3.out.below HB4.out.1
  · rw [hml] at c8
    have HI : Kp _ := ⟨hI⟩
    have hfz := hf _ HZ.out
    cases hfr : f (t.reads : Int) with
    | none =>
      rw [hfr] at hfz
      have hno : t.lies t.reads = none := by
        cases hl : t.lies (t.reads : Int) with
        | none => rfl
        | some _ => simp only [hl, LieAt] at hfz
      have HNone : Kp (t.lies t.reads = none) := ⟨hno⟩
      have P2 := P1.reflies (fun z => if z = (t.reads : Int) then none else t.lies z) (fun z hz => by
        by_cases e : z = (t.reads : Int)
        · rw [e]; simp [HNone.out]
        · simp [e])
      have HP2 : Kp _ := ⟨P2⟩
      clear P1 P2 hno hml hI hm hf hfz
      go_wp2_with (with_reducible refine wpList_lookI_ok (o := ⟨some 27, _, _, _, _, _⟩) HI.out keyI rfl (.tmp 25) (.tmp 26) rfl Try.underlying73 HZv.out rfl (t.reads : Int) HZ.out rfl ?_)
      refine (note_any HP2.out ⟨kd, pl, sl, l⟩ (HK.out l) A n c (HE.out _ _ _ _ _ _ HP2.out rfl HN1.out) hn HLen.out).mono ?_
      rintro e w3 ⟨rfl, ad3, L3, O3, P3, N3⟩
      have HP3 : Kp _ := ⟨P3⟩
      have HN3 : Kp _ := ⟨HN1.out.trans N3⟩
      clear P3 N3
      go_wp2_with fail
      refine (clone_any A n c l w3 (HE.out _ _ _ _ _ _ HP3.out rfl HN3.out) hn).mono ?_
      rintro e w4 ⟨v, rfl, ho4, hb4⟩
      obtain ⟨A4, c4, rfl, hbs4⟩ := BsM.of_own (M := Or2 M O3) ho4 HP3.out.lt hn
      have HB4 : Kp _ := ⟨And.intro hb4 hbs4⟩
      clear ho4 hb4 hbs4
      go_wp2
      go_ret
      have e1 : toldL t l = l := by unfold toldL; rw [HNone.out]; rfl
      refine ⟨A4, n, c4, ad3, L3, O3, rfl, ?_, HN3.out.below HB4.out.1, by rw [e1]; exact HB4.out.2⟩
      unfold tellW
      rw [e1]
      exact HP3.out.below HB4.out.1
    | some v =>
      rw [hfr] at hfz
      obtain ⟨lb, hlb⟩ : ∃ lb, t.lies t.reads = some lb := by
        cases hl : t.lies (t.reads : Int) with
        | none => simp only [hl, LieAt] at hfz
        | some lb => exact ⟨lb, rfl⟩
      rw [hlb] at hfz
      obtain ⟨Av, nv, cv, rfl, hbv⟩ := hfz
      have HLb : Kp (t.lies t.reads = some lb) := ⟨hlb⟩
      have HBv : Kp _ := ⟨hbv⟩
      have HF : Kp (ad.ml = some g ∧ m ≤ t.nl ∧ O g ∧ ∀ z, okI z → LieAt w1 M (f z) (t.lies z)) := ⟨hml, hm, hOg, hf⟩
      clear P1 hml hI hm hf hlb hbv hOg
      go_wp2_with (first | (with_reducible refine wpList_lookI_ok (o := ⟨some 27, _, _, _, _, _⟩) HI.out keyI rfl (.tmp 25) (.tmp 26) rfl Try.underlying73 HZv.out rfl (t.reads : Int) HZ.out rfl ?_) | (with_reducible refine wpList_dropI (o := ⟨none, _, _, _, _, _⟩) HI.out keyI rfl (.tmp 35) (.tmp 36) rfl Try.underlying73 rfl (t.reads : Int) HZ.out rfl ?_))
      intro w2 hI2 ho2
      have P2 := HP1.out.lied (lies := fun z => if z = (t.reads : Int) then none else t.lies z) (nl := t.nl) HF.out.1 ho2 hI2 (by have := HF.out.2.1; omega) (fun z hz => by
        by_cases e : z = (t.reads : Int)
        · simp [e, LieAt]
        · simpa [e] using HF.out.2.2.2 z hz)
      have C2 : Chg O w1 w2 := Chg.of_only ho2 HF.out.2.2.1
      have HP2 : Kp _ := ⟨P2⟩
      have HN2 : Kp _ := ⟨HN1.out.trans (Nx.only ho2 HF.out.2.2.1 (fun k hk => HP1.out.lt k (HP1.out.sub k hk)))⟩
      have HB2 : Kp _ := ⟨HBv.out.chg (M' := M) C2 HP1.out.sub (fun _ h => .inl h)⟩
      have hnv := HBv.out.fit
      clear P2 hI2 ho2 hfr C2 c8
      go_wp2_with fail
      refine (note_any HP2.out ⟨kd, pl, sl, lb⟩ (HK.out lb) Av nv cv HB2.out.bs hnv HLen.out).mono ?_
      rintro e w3 ⟨rfl, ad3, L3, O3, P3, N3⟩
      have HP3 : Kp _ := ⟨P3⟩
      have HB3 : Kp _ := ⟨HB2.out.nx HP2.out.sub N3⟩
      have HN3 : Kp _ := ⟨HN2.out.trans N3⟩
      clear P3 N3
      go_wp2_with fail
      refine (clone_any Av nv cv lb w3 HB3.out.bs hnv).mono ?_
      rintro e w4 ⟨v, rfl, ho4, hb4⟩
      obtain ⟨A4, c4, rfl, hbs4⟩ := BsM.of_own (M := Or2 M O3) ho4 HP3.out.lt hnv
      have HB4 : Kp _ := ⟨And.intro hb4 hbs4⟩
      clear ho4 hb4 hbs4
      go_wp2
      go_ret
      have e1 : toldL t l = lb := by unfold toldL; rw [HLb.out]; rfl
      refine ⟨A4, nv, c4, ad3, L3, O3, rfl, ?_, HN3.out.below HB4.out.1, by rw [e1]; exact HB4.out.2⟩
      unfold tellW
      rw [e1]
      exact HP3.out.below HB4.out.1
end Go.Proofs.Ytalnbomnmmefgaa
