/- The contract of world's traced. -/
import Derived.Test.YtalnbomnmmefgaaClone
import Derived.Test.YtalnbomnmmefgaaBuild
namespace Go.Proofs.Ytalnbomnmmefgaa
open Go.RowKit

def zeroTr : List Value := [.int .i64 0, .int .i64 0, .int .i64 0, .slice none 0 0]
theorem tyTr : Ty Try.prog 61 zeroTr := ⟨by kernel_rfl⟩
theorem rwTr : Rw Try.prog 61 (match (Try.prog).underlying 61 with | some d => d | none => .bool) 4 := ⟨by kernel_rfl, by kernel_rfl, by kernel_rfl⟩
theorem own_lower {w : World} {base base' : Nat} {e : TypeId} {size n : Nat} {v : Value} {xs : List Value} (h : w.ownsRow base e size v n xs) (hb : base' ≤ base) : w.ownsRow base' e size v n xs := by
  refine ⟨h.1, ?_⟩
  rcases h.2 with h1 | ⟨g, cap, cur, e1, h2, h3⟩
  · exact .inl h1
  · exact .inr ⟨g, cap, cur, e1, Nat.le_trans hb h2, h3⟩

set_option maxRecDepth 100000 in
set_option maxHeartbeats 1000000 in
theorem traced_any (t : Tr) (hk : TrOk t) (A : Option Addr) (n c : Nat) (w : World) (ha : Bs w w.heap.size A n c t.bytes) (hn : n ≤ 4294967296) :
    Calls Try.prog 50 #[.int .i64 t.kind, .int .i64 t.pl, .int .i64 t.slot, .slice A n c] w fun e w' => ∃ A' c', e = .returned (.agg (hd4 (t.kind, t.pl, t.slot, A', n, c')).toArray) ∧ w'.ownsRow w.heap.size 5 1 (.slice A' n c') n (cells8 t.bytes) ∧ Below w.heap.size w w' := by
  obtain ⟨kd, pl, sl, bs⟩ := t
  obtain ⟨hkd, _, _⟩ := hk
  simp only at hkd ha ⊢
  have HA : Kp _ := ⟨ha⟩
  have HL : Kp _ := ⟨ha.len⟩
  have HZ : Kp (zeroTr.length = 4) := ⟨rfl⟩
  clear ha
  rcases hkd with rfl | rfl | ⟨rfl, rfl⟩ | ⟨rfl, rfl⟩ | ⟨rfl, rfl, rfl, rfl⟩
  · go_enter Try.func50, Try.ntmps50
    go_wp2_with (with_reducible refine wpList_alloc (o := ⟨some 8, _, _, _, _, _⟩) tyTr rfl rfl ?_)
    intro w1 hk1 hb1 hs1
    have HK1 : Kp _ := ⟨hk1⟩
    clear hk1 hs1
    go_wp2_with (with_reducible refine wpList_alloc (o := ⟨some 9, _, _, _, _, _⟩) tyTr rfl rfl ?_)
    intro w2 hk2 hb2 hs2
    have HK2 : Kp _ := ⟨hk2⟩
    have HF2 : Kp _ := ⟨HK1.out.below hb2 HK1.out.lt⟩
    have hlt : w.heap.size < w1.heap.size := HK1.out.lt
    have hB2 : Below w.heap.size w w2 := hb1.trans (hb2.mono hb1.size)
    obtain ⟨g2, hg2⟩ : ∃ g, g = w1.heap.size := ⟨_, rfl⟩
    rw [← hg2] at HK2 hlt ⊢
    have hne : w.heap.size ≠ g2 := by omega
    have HLt : Kp (g2 < w2.heap.size) := ⟨HK2.out.lt⟩
    clear hs2 hk2 HK1 hb2 hb1 hg2
    have c0 : w2.cell? ⟨g2, 0, none⟩ = some (.int .i64 0) := HK2.out.cell? 0
    have f0 := HK2.out.frozen 0
    have c1 : w2.cell? ⟨g2, 1, none⟩ = some (.int .i64 0) := HK2.out.cell? 1
    have f1 := HK2.out.frozen 1
    have c2 : w2.cell? ⟨g2, 2, none⟩ = some (.int .i64 0) := HK2.out.cell? 2
    have f2 := HK2.out.frozen 2
    have c3 : w2.cell? ⟨g2, 3, none⟩ = some (.slice none 0 0) := HK2.out.cell? 3
    have f3 := HK2.out.frozen 3
    go_wp2_with fail
    have HK3 : Kp _ := ⟨HK2.out.set 2 (.int .i64 sl)⟩
    have HF3 : Kp _ := ⟨HF2.out.other (p := ⟨g2, 2, none⟩) hne (.int .i64 sl)⟩
    have hB3 : Below w.heap.size w (w2.setCell ⟨g2, 2, none⟩ (.int .i64 sl)) := hB2.setCell (by simp; omega) _
    have HLt3 : Kp (g2 < (w2.setCell ⟨g2, 2, none⟩ (.int .i64 sl)).heap.size) := ⟨by have := HLt.out; simpa using this⟩
    clear c0 c1 c2 c3 f0 f1 f2 f3 HK2 HF2 hB2
    generalize w2.setCell ⟨g2, 2, none⟩ (.int .i64 sl) = w3 at *
    refine (clone_any A n c bs _ ((HA.out.below hB3).more hB3.size) hn).mono ?_
    rintro e w4 ⟨v, rfl, ho4, hb4⟩
    obtain ⟨A4, c4', rfl, hc4, hm4, _⟩ := own_form ho4
    have HO4 : Kp _ := ⟨ho4⟩
    have HK4 : Kp _ := ⟨HK3.out.below hb4 HK3.out.lt⟩
    have HF4 : Kp _ := ⟨HF3.out.below hb4 HF3.out.lt⟩
    have hB4 : Below w.heap.size w w4 := hB3.trans (hb4.mono hB3.size)
    clear ho4 HK3 HF3
    have c0 : w4.cell? ⟨g2, 0, none⟩ = some (.int .i64 0) := HK4.out.cell? 0
    have f0 := HK4.out.frozen 0
    have c1 : w4.cell? ⟨g2, 1, none⟩ = some (.int .i64 0) := HK4.out.cell? 1
    have f1 := HK4.out.frozen 1
    have c2 : w4.cell? ⟨g2, 2, none⟩ = some (.int .i64 sl) := HK4.out.cell? 2
    have f2 := HK4.out.frozen 2
    have c3 : w4.cell? ⟨g2, 3, none⟩ = some (.slice none 0 0) := HK4.out.cell? 3
    have f3 := HK4.out.frozen 3
    have HK5 : Kp (Blk (((w4.setCell ⟨g2, 1, none⟩ (.int .i64 pl)).setCell ⟨g2, 3, none⟩ (.slice A4 n c4')).setCell ⟨g2, 0, none⟩ (.int .i64 1)) g2 61 (hd4 (1, pl, sl, A4, n, c4'))) := ⟨((HK4.out.set 1 (.int .i64 pl)).set 3 (.slice A4 n c4')).set 0 (.int .i64 1)⟩
    have HF5 : Kp (Blk (((w4.setCell ⟨g2, 1, none⟩ (.int .i64 pl)).setCell ⟨g2, 3, none⟩ (.slice A4 n c4')).setCell ⟨g2, 0, none⟩ (.int .i64 1)) w.heap.size 61 zeroTr) := ⟨((HF4.out.other (p := ⟨g2, 1, none⟩) hne _).other (p := ⟨g2, 3, none⟩) hne _).other (p := ⟨g2, 0, none⟩) hne _⟩
    have hB5 : Below w.heap.size w (((w4.setCell ⟨g2, 1, none⟩ (.int .i64 pl)).setCell ⟨g2, 3, none⟩ (.slice A4 n c4')).setCell ⟨g2, 0, none⟩ (.int .i64 1)) := ((hB4.setCell (p := ⟨g2, 1, none⟩) (by simp; omega) _).setCell (p := ⟨g2, 3, none⟩) (by simp; omega) _).setCell (p := ⟨g2, 0, none⟩) (by simp; omega) _
    have HO5 : Kp ((((w4.setCell ⟨g2, 1, none⟩ (.int .i64 pl)).setCell ⟨g2, 3, none⟩ (.slice A4 n c4')).setCell ⟨g2, 0, none⟩ (.int .i64 1)).ownsRow w3.heap.size 5 1 (.slice A4 n c4') n (cells8 bs)) := ⟨own_grown (own_grown (own_grown HO4.out (grown_set _ g2 1 _) HLt3.out) (grown_set _ g2 3 _) HLt3.out) (grown_set _ g2 0 _) HLt3.out⟩
    have HV : Kp (([.int .i64 1, .int .i64 pl, .int .i64 sl, .slice A4 n c4'] : List Value).length = 4) := ⟨rfl⟩
    have HO : Kp (∀ u ∈ ([.int .i64 1, .int .i64 pl, .int .i64 sl, .slice A4 n c4'] : List Value), u.oneCell' = true) := ⟨hd4_one (1, pl, sl, A4, n, c4')⟩
    have h3 := hB3.size
    go_wp2_with (with_reducible refine wpList_storeAll (o := ⟨none, _, _, _, _, _⟩) (vs := [.int .i64 1, .int .i64 pl, .int .i64 sl, .slice A4 n c4']) rwTr rfl (.tmp 8) (.tmp 28) rfl rfl HF5.out HZ.out HV.out HO.out rfl ?_)
    intro w6 hk6 ho6
    go_wp2
    refine ret_arr rfl rwTr rfl hk6 HV.out rfl ?_
    exact ⟨A4, c4', rfl, own_lower (own_grown HO5.out (grown_only ho6) (by have := HLt3.out; omega)) h3, hB5.trans (ho6.below (Nat.le_refl _))⟩
  · go_enter Try.func50, Try.ntmps50
    go_wp2_with (with_reducible refine wpList_alloc (o := ⟨some 8, _, _, _, _, _⟩) tyTr rfl rfl ?_)
    intro w1 hk1 hb1 hs1
    have HK1 : Kp _ := ⟨hk1⟩
    clear hk1 hs1
    go_wp2_with (with_reducible refine wpList_alloc (o := ⟨some 9, _, _, _, _, _⟩) tyTr rfl rfl ?_)
    intro w2 hk2 hb2 hs2
    have HK2 : Kp _ := ⟨hk2⟩
    have HF2 : Kp _ := ⟨HK1.out.below hb2 HK1.out.lt⟩
    have hlt : w.heap.size < w1.heap.size := HK1.out.lt
    have hB2 : Below w.heap.size w w2 := hb1.trans (hb2.mono hb1.size)
    obtain ⟨g2, hg2⟩ : ∃ g, g = w1.heap.size := ⟨_, rfl⟩
    rw [← hg2] at HK2 hlt ⊢
    have hne : w.heap.size ≠ g2 := by omega
    have HLt : Kp (g2 < w2.heap.size) := ⟨HK2.out.lt⟩
    clear hs2 hk2 HK1 hb2 hb1 hg2
    have c0 : w2.cell? ⟨g2, 0, none⟩ = some (.int .i64 0) := HK2.out.cell? 0
    have f0 := HK2.out.frozen 0
    have c1 : w2.cell? ⟨g2, 1, none⟩ = some (.int .i64 0) := HK2.out.cell? 1
    have f1 := HK2.out.frozen 1
    have c2 : w2.cell? ⟨g2, 2, none⟩ = some (.int .i64 0) := HK2.out.cell? 2
    have f2 := HK2.out.frozen 2
    have c3 : w2.cell? ⟨g2, 3, none⟩ = some (.slice none 0 0) := HK2.out.cell? 3
    have f3 := HK2.out.frozen 3
    go_wp2_with fail
    have HK3 : Kp _ := ⟨HK2.out.set 2 (.int .i64 sl)⟩
    have HF3 : Kp _ := ⟨HF2.out.other (p := ⟨g2, 2, none⟩) hne (.int .i64 sl)⟩
    have hB3 : Below w.heap.size w (w2.setCell ⟨g2, 2, none⟩ (.int .i64 sl)) := hB2.setCell (by simp; omega) _
    have HLt3 : Kp (g2 < (w2.setCell ⟨g2, 2, none⟩ (.int .i64 sl)).heap.size) := ⟨by have := HLt.out; simpa using this⟩
    clear c0 c1 c2 c3 f0 f1 f2 f3 HK2 HF2 hB2
    generalize w2.setCell ⟨g2, 2, none⟩ (.int .i64 sl) = w3 at *
    refine (clone_any A n c bs _ ((HA.out.below hB3).more hB3.size) hn).mono ?_
    rintro e w4 ⟨v, rfl, ho4, hb4⟩
    obtain ⟨A4, c4', rfl, hc4, hm4, _⟩ := own_form ho4
    have HO4 : Kp _ := ⟨ho4⟩
    have HK4 : Kp _ := ⟨HK3.out.below hb4 HK3.out.lt⟩
    have HF4 : Kp _ := ⟨HF3.out.below hb4 HF3.out.lt⟩
    have hB4 : Below w.heap.size w w4 := hB3.trans (hb4.mono hB3.size)
    clear ho4 HK3 HF3
    have c0 : w4.cell? ⟨g2, 0, none⟩ = some (.int .i64 0) := HK4.out.cell? 0
    have f0 := HK4.out.frozen 0
    have c1 : w4.cell? ⟨g2, 1, none⟩ = some (.int .i64 0) := HK4.out.cell? 1
    have f1 := HK4.out.frozen 1
    have c2 : w4.cell? ⟨g2, 2, none⟩ = some (.int .i64 sl) := HK4.out.cell? 2
    have f2 := HK4.out.frozen 2
    have c3 : w4.cell? ⟨g2, 3, none⟩ = some (.slice none 0 0) := HK4.out.cell? 3
    have f3 := HK4.out.frozen 3
    have HK5 : Kp (Blk (((w4.setCell ⟨g2, 1, none⟩ (.int .i64 pl)).setCell ⟨g2, 3, none⟩ (.slice A4 n c4')).setCell ⟨g2, 0, none⟩ (.int .i64 2)) g2 61 (hd4 (2, pl, sl, A4, n, c4'))) := ⟨((HK4.out.set 1 (.int .i64 pl)).set 3 (.slice A4 n c4')).set 0 (.int .i64 2)⟩
    have HF5 : Kp (Blk (((w4.setCell ⟨g2, 1, none⟩ (.int .i64 pl)).setCell ⟨g2, 3, none⟩ (.slice A4 n c4')).setCell ⟨g2, 0, none⟩ (.int .i64 2)) w.heap.size 61 zeroTr) := ⟨((HF4.out.other (p := ⟨g2, 1, none⟩) hne _).other (p := ⟨g2, 3, none⟩) hne _).other (p := ⟨g2, 0, none⟩) hne _⟩
    have hB5 : Below w.heap.size w (((w4.setCell ⟨g2, 1, none⟩ (.int .i64 pl)).setCell ⟨g2, 3, none⟩ (.slice A4 n c4')).setCell ⟨g2, 0, none⟩ (.int .i64 2)) := ((hB4.setCell (p := ⟨g2, 1, none⟩) (by simp; omega) _).setCell (p := ⟨g2, 3, none⟩) (by simp; omega) _).setCell (p := ⟨g2, 0, none⟩) (by simp; omega) _
    have HO5 : Kp ((((w4.setCell ⟨g2, 1, none⟩ (.int .i64 pl)).setCell ⟨g2, 3, none⟩ (.slice A4 n c4')).setCell ⟨g2, 0, none⟩ (.int .i64 2)).ownsRow w3.heap.size 5 1 (.slice A4 n c4') n (cells8 bs)) := ⟨own_grown (own_grown (own_grown HO4.out (grown_set _ g2 1 _) HLt3.out) (grown_set _ g2 3 _) HLt3.out) (grown_set _ g2 0 _) HLt3.out⟩
    have HV : Kp (([.int .i64 2, .int .i64 pl, .int .i64 sl, .slice A4 n c4'] : List Value).length = 4) := ⟨rfl⟩
    have HO : Kp (∀ u ∈ ([.int .i64 2, .int .i64 pl, .int .i64 sl, .slice A4 n c4'] : List Value), u.oneCell' = true) := ⟨hd4_one (2, pl, sl, A4, n, c4')⟩
    have h3 := hB3.size
    go_wp2_with (with_reducible refine wpList_storeAll (o := ⟨none, _, _, _, _, _⟩) (vs := [.int .i64 2, .int .i64 pl, .int .i64 sl, .slice A4 n c4']) rwTr rfl (.tmp 8) (.tmp 28) rfl rfl HF5.out HZ.out HV.out HO.out rfl ?_)
    intro w6 hk6 ho6
    go_wp2
    refine ret_arr rfl rwTr rfl hk6 HV.out rfl ?_
    exact ⟨A4, c4', rfl, own_lower (own_grown HO5.out (grown_only ho6) (by have := HLt3.out; omega)) h3, hB5.trans (ho6.below (Nat.le_refl _))⟩
  · go_enter Try.func50, Try.ntmps50
    go_wp2_with (with_reducible refine wpList_alloc (o := ⟨some 8, _, _, _, _, _⟩) tyTr rfl rfl ?_)
    intro w1 hk1 hb1 hs1
    have HK1 : Kp _ := ⟨hk1⟩
    clear hk1 hs1
    go_wp2_with (with_reducible refine wpList_alloc (o := ⟨some 9, _, _, _, _, _⟩) tyTr rfl rfl ?_)
    intro w2 hk2 hb2 hs2
    have HK2 : Kp _ := ⟨hk2⟩
    have HF2 : Kp _ := ⟨HK1.out.below hb2 HK1.out.lt⟩
    have hlt : w.heap.size < w1.heap.size := HK1.out.lt
    have hB2 : Below w.heap.size w w2 := hb1.trans (hb2.mono hb1.size)
    obtain ⟨g2, hg2⟩ : ∃ g, g = w1.heap.size := ⟨_, rfl⟩
    rw [← hg2] at HK2 hlt ⊢
    have hne : w.heap.size ≠ g2 := by omega
    have HLt : Kp (g2 < w2.heap.size) := ⟨HK2.out.lt⟩
    clear hs2 hk2 HK1 hb2 hb1 hg2
    have c0 : w2.cell? ⟨g2, 0, none⟩ = some (.int .i64 0) := HK2.out.cell? 0
    have f0 := HK2.out.frozen 0
    have c1 : w2.cell? ⟨g2, 1, none⟩ = some (.int .i64 0) := HK2.out.cell? 1
    have f1 := HK2.out.frozen 1
    have c2 : w2.cell? ⟨g2, 2, none⟩ = some (.int .i64 0) := HK2.out.cell? 2
    have f2 := HK2.out.frozen 2
    have c3 : w2.cell? ⟨g2, 3, none⟩ = some (.slice none 0 0) := HK2.out.cell? 3
    have f3 := HK2.out.frozen 3
    go_wp2_with fail
    have HK3 : Kp _ := HK2
    have HF3 : Kp _ := HF2
    have hB3 := hB2
    have HLt3 : Kp _ := HLt
    clear c0 c1 c2 c3 f0 f1 f2 f3 HK2 HF2 hB2
    obtain ⟨w3, rfl⟩ : ∃ x, x = w2 := ⟨_, rfl⟩
    refine (clone_any A n c bs _ ((HA.out.below hB3).more hB3.size) hn).mono ?_
    rintro e w4 ⟨v, rfl, ho4, hb4⟩
    obtain ⟨A4, c4', rfl, hc4, hm4, _⟩ := own_form ho4
    have HO4 : Kp _ := ⟨ho4⟩
    have HK4 : Kp _ := ⟨HK3.out.below hb4 HK3.out.lt⟩
    have HF4 : Kp _ := ⟨HF3.out.below hb4 HF3.out.lt⟩
    have hB4 : Below w.heap.size w w4 := hB3.trans (hb4.mono hB3.size)
    clear ho4 HK3 HF3
    have c0 : w4.cell? ⟨g2, 0, none⟩ = some (.int .i64 0) := HK4.out.cell? 0
    have f0 := HK4.out.frozen 0
    have c1 : w4.cell? ⟨g2, 1, none⟩ = some (.int .i64 0) := HK4.out.cell? 1
    have f1 := HK4.out.frozen 1
    have c2 : w4.cell? ⟨g2, 2, none⟩ = some (.int .i64 0) := HK4.out.cell? 2
    have f2 := HK4.out.frozen 2
    have c3 : w4.cell? ⟨g2, 3, none⟩ = some (.slice none 0 0) := HK4.out.cell? 3
    have f3 := HK4.out.frozen 3
    have HK5 : Kp (Blk (((w4.setCell ⟨g2, 1, none⟩ (.int .i64 pl)).setCell ⟨g2, 3, none⟩ (.slice A4 n c4')).setCell ⟨g2, 0, none⟩ (.int .i64 3)) g2 61 (hd4 (3, pl, 0, A4, n, c4'))) := ⟨((HK4.out.set 1 (.int .i64 pl)).set 3 (.slice A4 n c4')).set 0 (.int .i64 3)⟩
    have HF5 : Kp (Blk (((w4.setCell ⟨g2, 1, none⟩ (.int .i64 pl)).setCell ⟨g2, 3, none⟩ (.slice A4 n c4')).setCell ⟨g2, 0, none⟩ (.int .i64 3)) w.heap.size 61 zeroTr) := ⟨((HF4.out.other (p := ⟨g2, 1, none⟩) hne _).other (p := ⟨g2, 3, none⟩) hne _).other (p := ⟨g2, 0, none⟩) hne _⟩
    have hB5 : Below w.heap.size w (((w4.setCell ⟨g2, 1, none⟩ (.int .i64 pl)).setCell ⟨g2, 3, none⟩ (.slice A4 n c4')).setCell ⟨g2, 0, none⟩ (.int .i64 3)) := ((hB4.setCell (p := ⟨g2, 1, none⟩) (by simp; omega) _).setCell (p := ⟨g2, 3, none⟩) (by simp; omega) _).setCell (p := ⟨g2, 0, none⟩) (by simp; omega) _
    have HO5 : Kp ((((w4.setCell ⟨g2, 1, none⟩ (.int .i64 pl)).setCell ⟨g2, 3, none⟩ (.slice A4 n c4')).setCell ⟨g2, 0, none⟩ (.int .i64 3)).ownsRow w3.heap.size 5 1 (.slice A4 n c4') n (cells8 bs)) := ⟨own_grown (own_grown (own_grown HO4.out (grown_set _ g2 1 _) HLt3.out) (grown_set _ g2 3 _) HLt3.out) (grown_set _ g2 0 _) HLt3.out⟩
    have HV : Kp (([.int .i64 3, .int .i64 pl, .int .i64 0, .slice A4 n c4'] : List Value).length = 4) := ⟨rfl⟩
    have HO : Kp (∀ u ∈ ([.int .i64 3, .int .i64 pl, .int .i64 0, .slice A4 n c4'] : List Value), u.oneCell' = true) := ⟨hd4_one (3, pl, 0, A4, n, c4')⟩
    have h3 := hB3.size
    go_wp2_with (with_reducible refine wpList_storeAll (o := ⟨none, _, _, _, _, _⟩) (vs := [.int .i64 3, .int .i64 pl, .int .i64 0, .slice A4 n c4']) rwTr rfl (.tmp 8) (.tmp 28) rfl rfl HF5.out HZ.out HV.out HO.out rfl ?_)
    intro w6 hk6 ho6
    go_wp2
    refine ret_arr rfl rwTr rfl hk6 HV.out rfl ?_
    exact ⟨A4, c4', rfl, own_lower (own_grown HO5.out (grown_only ho6) (by have := HLt3.out; omega)) h3, hB5.trans (ho6.below (Nat.le_refl _))⟩
  · go_enter Try.func50, Try.ntmps50
    go_wp2_with (with_reducible refine wpList_alloc (o := ⟨some 8, _, _, _, _, _⟩) tyTr rfl rfl ?_)
    intro w1 hk1 hb1 hs1
    have HK1 : Kp _ := ⟨hk1⟩
    clear hk1 hs1
    go_wp2_with (with_reducible refine wpList_alloc (o := ⟨some 9, _, _, _, _, _⟩) tyTr rfl rfl ?_)
    intro w2 hk2 hb2 hs2
    have HK2 : Kp _ := ⟨hk2⟩
    have HF2 : Kp _ := ⟨HK1.out.below hb2 HK1.out.lt⟩
    have hlt : w.heap.size < w1.heap.size := HK1.out.lt
    have hB2 : Below w.heap.size w w2 := hb1.trans (hb2.mono hb1.size)
    obtain ⟨g2, hg2⟩ : ∃ g, g = w1.heap.size := ⟨_, rfl⟩
    rw [← hg2] at HK2 hlt ⊢
    have hne : w.heap.size ≠ g2 := by omega
    have HLt : Kp (g2 < w2.heap.size) := ⟨HK2.out.lt⟩
    clear hs2 hk2 HK1 hb2 hb1 hg2
    have c0 : w2.cell? ⟨g2, 0, none⟩ = some (.int .i64 0) := HK2.out.cell? 0
    have f0 := HK2.out.frozen 0
    have c1 : w2.cell? ⟨g2, 1, none⟩ = some (.int .i64 0) := HK2.out.cell? 1
    have f1 := HK2.out.frozen 1
    have c2 : w2.cell? ⟨g2, 2, none⟩ = some (.int .i64 0) := HK2.out.cell? 2
    have f2 := HK2.out.frozen 2
    have c3 : w2.cell? ⟨g2, 3, none⟩ = some (.slice none 0 0) := HK2.out.cell? 3
    have f3 := HK2.out.frozen 3
    go_wp2_with fail
    have HK3 : Kp _ := HK2
    have HF3 : Kp _ := HF2
    have hB3 := hB2
    have HLt3 : Kp _ := HLt
    clear c0 c1 c2 c3 f0 f1 f2 f3 HK2 HF2 hB2
    obtain ⟨w3, rfl⟩ : ∃ x, x = w2 := ⟨_, rfl⟩
    refine (clone_any A n c bs _ ((HA.out.below hB3).more hB3.size) hn).mono ?_
    rintro e w4 ⟨v, rfl, ho4, hb4⟩
    obtain ⟨A4, c4', rfl, hc4, hm4, _⟩ := own_form ho4
    have HO4 : Kp _ := ⟨ho4⟩
    have HK4 : Kp _ := ⟨HK3.out.below hb4 HK3.out.lt⟩
    have HF4 : Kp _ := ⟨HF3.out.below hb4 HF3.out.lt⟩
    have hB4 : Below w.heap.size w w4 := hB3.trans (hb4.mono hB3.size)
    clear ho4 HK3 HF3
    have c0 : w4.cell? ⟨g2, 0, none⟩ = some (.int .i64 0) := HK4.out.cell? 0
    have f0 := HK4.out.frozen 0
    have c1 : w4.cell? ⟨g2, 1, none⟩ = some (.int .i64 0) := HK4.out.cell? 1
    have f1 := HK4.out.frozen 1
    have c2 : w4.cell? ⟨g2, 2, none⟩ = some (.int .i64 0) := HK4.out.cell? 2
    have f2 := HK4.out.frozen 2
    have c3 : w4.cell? ⟨g2, 3, none⟩ = some (.slice none 0 0) := HK4.out.cell? 3
    have f3 := HK4.out.frozen 3
    have HK5 : Kp (Blk (((w4.setCell ⟨g2, 1, none⟩ (.int .i64 pl)).setCell ⟨g2, 3, none⟩ (.slice A4 n c4')).setCell ⟨g2, 0, none⟩ (.int .i64 4)) g2 61 (hd4 (4, pl, 0, A4, n, c4'))) := ⟨((HK4.out.set 1 (.int .i64 pl)).set 3 (.slice A4 n c4')).set 0 (.int .i64 4)⟩
    have HF5 : Kp (Blk (((w4.setCell ⟨g2, 1, none⟩ (.int .i64 pl)).setCell ⟨g2, 3, none⟩ (.slice A4 n c4')).setCell ⟨g2, 0, none⟩ (.int .i64 4)) w.heap.size 61 zeroTr) := ⟨((HF4.out.other (p := ⟨g2, 1, none⟩) hne _).other (p := ⟨g2, 3, none⟩) hne _).other (p := ⟨g2, 0, none⟩) hne _⟩
    have hB5 : Below w.heap.size w (((w4.setCell ⟨g2, 1, none⟩ (.int .i64 pl)).setCell ⟨g2, 3, none⟩ (.slice A4 n c4')).setCell ⟨g2, 0, none⟩ (.int .i64 4)) := ((hB4.setCell (p := ⟨g2, 1, none⟩) (by simp; omega) _).setCell (p := ⟨g2, 3, none⟩) (by simp; omega) _).setCell (p := ⟨g2, 0, none⟩) (by simp; omega) _
    have HO5 : Kp ((((w4.setCell ⟨g2, 1, none⟩ (.int .i64 pl)).setCell ⟨g2, 3, none⟩ (.slice A4 n c4')).setCell ⟨g2, 0, none⟩ (.int .i64 4)).ownsRow w3.heap.size 5 1 (.slice A4 n c4') n (cells8 bs)) := ⟨own_grown (own_grown (own_grown HO4.out (grown_set _ g2 1 _) HLt3.out) (grown_set _ g2 3 _) HLt3.out) (grown_set _ g2 0 _) HLt3.out⟩
    have HV : Kp (([.int .i64 4, .int .i64 pl, .int .i64 0, .slice A4 n c4'] : List Value).length = 4) := ⟨rfl⟩
    have HO : Kp (∀ u ∈ ([.int .i64 4, .int .i64 pl, .int .i64 0, .slice A4 n c4'] : List Value), u.oneCell' = true) := ⟨hd4_one (4, pl, 0, A4, n, c4')⟩
    have h3 := hB3.size
    go_wp2_with (with_reducible refine wpList_storeAll (o := ⟨none, _, _, _, _, _⟩) (vs := [.int .i64 4, .int .i64 pl, .int .i64 0, .slice A4 n c4']) rwTr rfl (.tmp 8) (.tmp 28) rfl rfl HF5.out HZ.out HV.out HO.out rfl ?_)
    intro w6 hk6 ho6
    go_wp2
    refine ret_arr rfl rwTr rfl hk6 HV.out rfl ?_
    exact ⟨A4, c4', rfl, own_lower (own_grown HO5.out (grown_only ho6) (by have := HLt3.out; omega)) h3, hB5.trans (ho6.below (Nat.le_refl _))⟩
  · go_enter Try.func50, Try.ntmps50
    go_wp2_with (with_reducible refine wpList_alloc (o := ⟨some 8, _, _, _, _, _⟩) tyTr rfl rfl ?_)
    intro w1 hk1 hb1 hs1
    have HK1 : Kp _ := ⟨hk1⟩
    clear hk1 hs1
    go_wp2_with (with_reducible refine wpList_alloc (o := ⟨some 9, _, _, _, _, _⟩) tyTr rfl rfl ?_)
    intro w2 hk2 hb2 hs2
    have HK2 : Kp _ := ⟨hk2⟩
    have HF2 : Kp _ := ⟨HK1.out.below hb2 HK1.out.lt⟩
    have hlt : w.heap.size < w1.heap.size := HK1.out.lt
    have hB2 : Below w.heap.size w w2 := hb1.trans (hb2.mono hb1.size)
    obtain ⟨g2, hg2⟩ : ∃ g, g = w1.heap.size := ⟨_, rfl⟩
    rw [← hg2] at HK2 hlt ⊢
    have hne : w.heap.size ≠ g2 := by omega
    have HLt : Kp (g2 < w2.heap.size) := ⟨HK2.out.lt⟩
    clear hs2 hk2 HK1 hb2 hb1 hg2
    have c0 : w2.cell? ⟨g2, 0, none⟩ = some (.int .i64 0) := HK2.out.cell? 0
    have f0 := HK2.out.frozen 0
    have c1 : w2.cell? ⟨g2, 1, none⟩ = some (.int .i64 0) := HK2.out.cell? 1
    have f1 := HK2.out.frozen 1
    have c2 : w2.cell? ⟨g2, 2, none⟩ = some (.int .i64 0) := HK2.out.cell? 2
    have f2 := HK2.out.frozen 2
    have c3 : w2.cell? ⟨g2, 3, none⟩ = some (.slice none 0 0) := HK2.out.cell? 3
    have f3 := HK2.out.frozen 3
    have HK5 : Kp _ := ⟨HK2.out.set 0 (.int .i64 5)⟩
    have HF5 : Kp _ := ⟨HF2.out.other (p := ⟨g2, 0, none⟩) hne (.int .i64 5)⟩
    have hB5 : Below w.heap.size w (w2.setCell ⟨g2, 0, none⟩ (.int .i64 5)) := hB2.setCell (by simp; omega) _
    have HV : Kp (([.int .i64 5, .int .i64 0, .int .i64 0, .slice none 0 0] : List Value).length = 4) := ⟨rfl⟩
    have HO : Kp (∀ u ∈ ([.int .i64 5, .int .i64 0, .int .i64 0, .slice none 0 0] : List Value), u.oneCell' = true) := ⟨hd4_one (5, 0, 0, none, 0, 0)⟩
    obtain rfl : n = 0 := by have := HL.out; simpa using this.symm
    go_wp2_with (with_reducible refine wpList_storeAll (o := ⟨none, _, _, _, _, _⟩) (vs := [.int .i64 5, .int .i64 0, .int .i64 0, .slice none 0 0]) rwTr rfl (.tmp 8) (.tmp 28) rfl rfl HF5.out HZ.out HV.out HO.out rfl ?_)
    intro w6 hk6 ho6
    go_wp2
    refine ret_arr rfl rwTr rfl hk6 HV.out rfl ?_
    exact ⟨none, 0, rfl, own_nil _ _ _, hB5.trans (ho6.below (Nat.le_refl _))⟩
end Go.Proofs.Ytalnbomnmmefgaa
