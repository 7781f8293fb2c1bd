/- The contract of World's Bump. -/
import Derived.Test.YtalnbomnmmefgaaSmall
import Derived.Test.YtalnbomnmmefgaaRead
import Derived.Test.YtalnbomnmmefgaaLay
namespace Go.Proofs.Ytalnbomnmmefgaa
open Go.RowKit
section
variable {O M : Nat → Prop} {b : Nat} {ad : Ad} {t : Wd} {p : Int × Int → Option Nat} {L : List Hd4} {w : World}

def bumpB (t : Wd) : Bool := !t.lost && (decide (t.ctr < 18446744073709551615) && takeOk t)
def bumpW (t : Wd) : Wd := if t.lost = true then t else if 18446744073709551615 ≤ t.ctr then t else if takeOk t = true then { takeW t with ctr := t.ctr + 1, tr := t.tr ++ [⟨5, 0, 0, []⟩] } else takeW t
theorem takeW_same (t : Wd) : (takeW t).n = t.n ∧ (takeW t).sl = t.sl ∧ (takeW t).s0 = t.s0 ∧ (takeW t).s1 = t.s1 ∧ (takeW t).lies = t.lies ∧ (takeW t).nl = t.nl ∧ (takeW t).tr = t.tr ∧ (takeW t).ctr = t.ctr ∧ (takeW t).reads = t.reads := by
  unfold takeW
  split
  · split <;> exact ⟨rfl, rfl, rfl, rfl, rfl, rfl, rfl, rfl, rfl⟩
  · exact ⟨rfl, rfl, rfl, rfl, rfl, rfl, rfl, rfl, rfl⟩
theorem took_parts {w' : World} (h : Parts w O M b ad t p L) (hb : Blk w' b 75 (wdCells ad (takeW t))) (ho : Only b w w') : Parts w' O M b ad (takeW t) p L ∧ Nx w O w' O := by
  obtain ⟨q1, q2, q3, q4, q5, q6, q7, q8, q9⟩ := takeW_same t
  exact ⟨h.own ho hb q1 q2 q3 q4 q5 q6 q7 (takeW_left t h.pow) (by rw [q8]; exact h.num) (by rw [q9]; exact h.read), Nx.only ho h.ob (fun k hk => h.lt k (h.sub k hk))⟩
theorem ctr_parts (h : Parts w O M b ad t p L) (n : Nat) (hn : n < 18446744073709551616) : Parts (w.setCell ⟨b, 3, none⟩ (.int .u64 (n : Int))) O M b ad { t with ctr := n } p L ∧ Nx w O (w.setCell ⟨b, 3, none⟩ (.int .u64 (n : Int))) O := by
  have ho := Only.setCell w ⟨b, 3, none⟩ (.int .u64 (n : Int))
  exact ⟨h.own ho (h.blk.set 3 _) rfl rfl rfl rfl rfl rfl rfl h.pow hn h.read, Nx.only ho h.ob (fun k hk => h.lt k (h.sub k hk))⟩

set_option maxRecDepth 100000 in
set_option maxHeartbeats 1000000 in
theorem bump_any (h : Parts w O M b ad t p L) (hlen : t.tr.length ≤ 1000000) :
    Calls Try.prog 18 #[.pointer (some ⟨b, 0, none⟩)] w fun e w' => e = .returned (.bool (bumpB t)) ∧ ∃ ad' L' O', Parts w' O' (Or2 M O') b ad' (bumpW t) p L' ∧ Nx w O w' O' := by
  have c3 : w.cell? ⟨b, 3, none⟩ = some (.int .u64 (t.ctr : Int)) := by rw [h.blk.cell? 3]; rfl
  have HP : Kp _ := ⟨h⟩
  have hnum := h.num
  clear h
  cases hl : t.lost
  · by_cases hc : 18446744073709551615 ≤ t.ctr
    · have HT : Kp (bumpW t = t ∧ bumpB t = false) := ⟨by unfold bumpW bumpB; rw [hl, if_neg (by decide), if_pos hc, decide_eq_false (by omega)]; exact ⟨rfl, rfl⟩⟩
      have he : ((t.ctr : Int) == 18446744073709551615) = true := by rw [beq_iff_eq]; omega
      have HC : Kp _ := ⟨And.intro hc hnum⟩
      clear hc hnum
      go_enter Try.func18, Try.ntmps18
      go_wp2_with fail
      refine (runs_any b ad t w HP.out.blk).mono ?_
      rintro e w1 ⟨rfl, rfl⟩
      rw [hl]
      go_wp2
      go_ret
      rw [HT.out.1, HT.out.2]
      exact ⟨rfl, ad, L, O, HP.out.stayO, HP.out.nx⟩
    · have he : ((t.ctr : Int) == 18446744073709551615) = false := by rw [beq_eq_false_iff_ne]; omega
      cases htk : takeOk t
      · have HT : Kp (bumpW t = takeW t ∧ bumpB t = false) := ⟨by unfold bumpW bumpB; rw [hl, if_neg (by decide), if_neg hc, if_neg (by rw [htk]; decide), htk]; simp⟩
        have HC : Kp _ := ⟨And.intro hc hnum⟩
        clear hc hnum
        go_enter Try.func18, Try.ntmps18
        go_wp2_with fail
        refine (runs_any b ad t w HP.out.blk).mono ?_
        rintro e w1 ⟨rfl, rfl⟩
        rw [hl]
        go_wp2_with fail
        refine (take_any b ad t w1 HP.out.blk HP.out.pow).mono ?_
        rintro e w2 ⟨rfl, hb2, ho2⟩
        have HR : Kp _ := ⟨took_parts HP.out hb2 ho2⟩
        clear hb2 ho2 c3
        rw [htk]
        go_wp2
        go_ret
        rw [HT.out.1, HT.out.2]
        exact ⟨rfl, ad, L, O, HR.out.1.stayO, HR.out.2⟩
      · have HT : Kp (bumpW t = { takeW t with ctr := t.ctr + 1, tr := t.tr ++ [⟨5, 0, 0, []⟩] } ∧ bumpB t = true) := ⟨by unfold bumpW bumpB; rw [hl, if_neg (by decide), if_neg hc, if_pos htk, htk, decide_eq_true (by omega)]; exact ⟨rfl, rfl⟩⟩
        have HC : Kp (t.ctr + 1 < 18446744073709551616) := ⟨by omega⟩
        have hw : IntKind.u64.wrap ((t.ctr : Int) + 1) = ((t.ctr + 1 : Nat) : Int) := by
          rw [show (t.ctr : Int) + 1 = ((t.ctr + 1 : Nat) : Int) by omega, wrap_u64_nat, Nat.mod_eq_of_lt HC.out]
        clear hc hnum
        go_enter Try.func18, Try.ntmps18
        go_wp2_with fail
        refine (runs_any b ad t w HP.out.blk).mono ?_
        rintro e w1 ⟨rfl, rfl⟩
        rw [hl]
        go_wp2_with fail
        refine (take_any b ad t w1 HP.out.blk HP.out.pow).mono ?_
        rintro e w2 ⟨rfl, hb2, ho2⟩
        have HR : Kp _ := ⟨took_parts HP.out hb2 ho2⟩
        have d3 : w2.cell? ⟨b, 3, none⟩ = some (.int .u64 (t.ctr : Int)) := by rw [hb2.cell? 3]; show some (Value.int .u64 ((takeW t).ctr : Int)) = _; rw [(takeW_same t).2.2.2.2.2.2.2.1]
        have f3 := hb2.frozen 3
        have HR3 : Kp _ := ⟨ctr_parts HR.out.1 (t.ctr + 1) HC.out⟩
        clear hb2 ho2 c3
        rw [htk]
        go_wp2_with fail
        refine (note_any HR3.out.1 ⟨5, 0, 0, []⟩ ⟨.inr (.inr (.inr (.inr ⟨rfl, rfl, rfl, rfl⟩))), rfl, rfl⟩ none 0 0 (Bs.zero _ _) (by omega) (by rw [(takeW_same t).2.2.2.2.2.2.1]; exact hlen)).mono ?_
        rintro e w4 ⟨rfl, ad4, L4, O4, P4, N4⟩
        have HP4 : Kp _ := ⟨P4⟩
        have HN4 : Kp _ := ⟨HR.out.2.trans (HR3.out.2.trans N4)⟩
        clear P4 N4
        go_wp2
        go_ret
        rw [HT.out.1, HT.out.2]
        refine ⟨rfl, ad4, L4, O4, ?_, HN4.out⟩
        have h4 := HP4.out
        rw [(takeW_same t).2.2.2.2.2.2.1] at h4
        exact h4
  · have HT : Kp (bumpW t = t ∧ bumpB t = false) := ⟨by unfold bumpW bumpB; rw [hl]; exact ⟨rfl, rfl⟩⟩
    go_enter Try.func18, Try.ntmps18
    go_wp2_with fail
    refine (runs_any b ad t w HP.out.blk).mono ?_
    rintro e w1 ⟨rfl, rfl⟩
    rw [hl]
    go_wp2
    go_ret
    rw [HT.out.1, HT.out.2]
    exact ⟨rfl, ad, L, O, HP.out.stayO, HP.out.nx⟩
end
end Go.Proofs.Ytalnbomnmmefgaa
