/- The contract of world's traced.
   The contract of world's note.
   The contracts of atomic's Add and Load, and of world's tell.
   The contracts of world's power: take, armed.
   The contracts of world's runs, slot, hasSeal. -/
import Derived.Test.YtpbpegoobgfjcaaG03
import Derived.WalkMore
import Derived.Laws.LoneSync
namespace Go.Proofs.Ytpbpegoobgfjcaa
open Go.RowKit

def zeroTr : List Value := [.int .i64 0, .int .i64 0, .int .i64 0, .slice none 0 0]
theorem tyTr : Ty Try.prog 61 zeroTr := ⟨by kernel_rfl⟩
theorem rwTr : Rw Try.prog 61 (match (Try.prog).underlying 61 with | some d => d | none => .bool) 4 := ⟨by kernel_rfl, by kernel_rfl, by kernel_rfl⟩
theorem own_lower {w : World} {base base' : Nat} {e : TypeId} {size n : Nat} {v : Value} {xs : List Value} (h : w.ownsRow base e size v n xs) (hb : base' ≤ base) : w.ownsRow base' e size v n xs := by
  refine ⟨h.1, ?_⟩
  rcases h.2 with h1 | ⟨g, cap, cur, e1, h2, h3⟩
  · exact .inl h1
  · exact .inr ⟨g, cap, cur, e1, Nat.le_trans hb h2, h3⟩

set_option maxRecDepth 100000 in
set_option maxHeartbeats 1000000 in
theorem traced_any (t : Tr) (hk : TrOk t) (A : Option Addr) (n c : Nat) (w : World) (ha : Bs w w.heap.size A n c t.bytes) (hn : n ≤ 4294967296) :
    Calls Try.prog 50 #[.int .i64 t.kind, .int .i64 t.pl, .int .i64 t.slot, .slice A n c] w fun e w' => ∃ A' c', e = .returned (.agg (hd4 (t.kind, t.pl, t.slot, A', n, c')).toArray) ∧ w'.ownsRow w.heap.size 5 1 (.slice A' n c') n (cells8 t.bytes) ∧ Below w.heap.size w w' := by
  obtain ⟨kd, pl, sl, bs⟩ := t
  obtain ⟨hkd, _, _⟩ := hk
  simp only at hkd ha ⊢
  have HA : Kp _ := ⟨ha⟩
  have HL : Kp _ := ⟨ha.len⟩
  have HZ : Kp (zeroTr.length = 4) := ⟨rfl⟩
  clear ha
  rcases hkd with rfl | rfl | ⟨rfl, rfl⟩ | ⟨rfl, rfl⟩ | ⟨rfl, rfl, rfl, rfl⟩
  · go_enter Try.func50, Try.ntmps50
    go_wp2_with (with_reducible refine wpList_alloc (o := ⟨some 8, _, _, _, _, _⟩) tyTr rfl rfl ?_)
    intro w1 hk1 hb1 hs1
    have HK1 : Kp _ := ⟨hk1⟩
    clear hk1 hs1
    go_wp2_with (with_reducible refine wpList_alloc (o := ⟨some 9, _, _, _, _, _⟩) tyTr rfl rfl ?_)
    intro w2 hk2 hb2 hs2
    have HK2 : Kp _ := ⟨hk2⟩
    have HF2 : Kp _ := ⟨HK1.out.below hb2 HK1.out.lt⟩
    have hlt : w.heap.size < w1.heap.size := HK1.out.lt
    have hB2 : Below w.heap.size w w2 := hb1.trans (hb2.mono hb1.size)
    obtain ⟨g2, hg2⟩ : ∃ g, g = w1.heap.size := ⟨_, rfl⟩
    rw [← hg2] at HK2 hlt ⊢
    have hne : w.heap.size ≠ g2 := by omega
    have HLt : Kp (g2 < w2.heap.size) := ⟨HK2.out.lt⟩
    clear hs2 hk2 HK1 hb2 hb1 hg2
    have c0 : w2.cell? ⟨g2, 0, none⟩ = some (.int .i64 0) := HK2.out.cell? 0
    have f0 := HK2.out.frozen 0
    have c1 : w2.cell? ⟨g2, 1, none⟩ = some (.int .i64 0) := HK2.out.cell? 1
    have f1 := HK2.out.frozen 1
    have c2 : w2.cell? ⟨g2, 2, none⟩ = some (.int .i64 0) := HK2.out.cell? 2
    have f2 := HK2.out.frozen 2
    have c3 : w2.cell? ⟨g2, 3, none⟩ = some (.slice none 0 0) := HK2.out.cell? 3
    have f3 := HK2.out.frozen 3
    go_wp2_with fail
    have HK3 : Kp _ := ⟨HK2.out.set 2 (.int .i64 sl)⟩
    have HF3 : Kp _ := ⟨HF2.out.other (p := ⟨g2, 2, none⟩) hne (.int .i64 sl)⟩
    have hB3 : Below w.heap.size w (w2.setCell ⟨g2, 2, none⟩ (.int .i64 sl)) := hB2.setCell (by simp; omega) _
    have HLt3 : Kp (g2 < (w2.setCell ⟨g2, 2, none⟩ (.int .i64 sl)).heap.size) := ⟨by have := HLt.out; simpa using this⟩
    clear c0 c1 c2 c3 f0 f1 f2 f3 HK2 HF2 hB2
    generalize w2.setCell ⟨g2, 2, none⟩ (.int .i64 sl) = w3 at *
    refine (clone_any A n c bs _ ((HA.out.below hB3).more hB3.size) hn).mono ?_
    rintro e w4 ⟨v, rfl, ho4, hb4⟩
    obtain ⟨A4, c4', rfl, hc4, hm4, _⟩ := own_form ho4
    have HO4 : Kp _ := ⟨ho4⟩
    have HK4 : Kp _ := ⟨HK3.out.below hb4 HK3.out.lt⟩
    have HF4 : Kp _ := ⟨HF3.out.below hb4 HF3.out.lt⟩
    have hB4 : Below w.heap.size w w4 := hB3.trans (hb4.mono hB3.size)
    clear ho4 HK3 HF3
    have c0 : w4.cell? ⟨g2, 0, none⟩ = some (.int .i64 0) := HK4.out.cell? 0
    have f0 := HK4.out.frozen 0
    have c1 : w4.cell? ⟨g2, 1, none⟩ = some (.int .i64 0) := HK4.out.cell? 1
    have f1 := HK4.out.frozen 1
    have c2 : w4.cell? ⟨g2, 2, none⟩ = some (.int .i64 sl) := HK4.out.cell? 2
    have f2 := HK4.out.frozen 2
    have c3 : w4.cell? ⟨g2, 3, none⟩ = some (.slice none 0 0) := HK4.out.cell? 3
    have f3 := HK4.out.frozen 3
    have HK5 : Kp (Blk (((w4.setCell ⟨g2, 1, none⟩ (.int .i64 pl)).setCell ⟨g2, 3, none⟩ (.slice A4 n c4')).setCell ⟨g2, 0, none⟩ (.int .i64 1)) g2 61 (hd4 (1, pl, sl, A4, n, c4'))) := ⟨((HK4.out.set 1 (.int .i64 pl)).set 3 (.slice A4 n c4')).set 0 (.int .i64 1)⟩
    have HF5 : Kp (Blk (((w4.setCell ⟨g2, 1, none⟩ (.int .i64 pl)).setCell ⟨g2, 3, none⟩ (.slice A4 n c4')).setCell ⟨g2, 0, none⟩ (.int .i64 1)) w.heap.size 61 zeroTr) := ⟨((HF4.out.other (p := ⟨g2, 1, none⟩) hne _).other (p := ⟨g2, 3, none⟩) hne _).other (p := ⟨g2, 0, none⟩) hne _⟩
    have hB5 : Below w.heap.size w (((w4.setCell ⟨g2, 1, none⟩ (.int .i64 pl)).setCell ⟨g2, 3, none⟩ (.slice A4 n c4')).setCell ⟨g2, 0, none⟩ (.int .i64 1)) := ((hB4.setCell (p := ⟨g2, 1, none⟩) (by simp; omega) _).setCell (p := ⟨g2, 3, none⟩) (by simp; omega) _).setCell (p := ⟨g2, 0, none⟩) (by simp; omega) _
    have HO5 : Kp ((((w4.setCell ⟨g2, 1, none⟩ (.int .i64 pl)).setCell ⟨g2, 3, none⟩ (.slice A4 n c4')).setCell ⟨g2, 0, none⟩ (.int .i64 1)).ownsRow w3.heap.size 5 1 (.slice A4 n c4') n (cells8 bs)) := ⟨own_grown (own_grown (own_grown HO4.out (grown_set _ g2 1 _) HLt3.out) (grown_set _ g2 3 _) HLt3.out) (grown_set _ g2 0 _) HLt3.out⟩
    have HV : Kp (([.int .i64 1, .int .i64 pl, .int .i64 sl, .slice A4 n c4'] : List Value).length = 4) := ⟨rfl⟩
    have HO : Kp (∀ u ∈ ([.int .i64 1, .int .i64 pl, .int .i64 sl, .slice A4 n c4'] : List Value), u.oneCell' = true) := ⟨hd4_one (1, pl, sl, A4, n, c4')⟩
    have h3 := hB3.size
    go_wp2_with (with_reducible refine wpList_storeAll (o := ⟨none, _, _, _, _, _⟩) (vs := [.int .i64 1, .int .i64 pl, .int .i64 sl, .slice A4 n c4']) rwTr rfl (.tmp 8) (.tmp 28) rfl rfl HF5.out HZ.out HV.out HO.out rfl ?_)
    intro w6 hk6 ho6
    go_wp2
    refine ret_arr rfl rwTr rfl hk6 HV.out rfl ?_
    exact ⟨A4, c4', rfl, own_lower (own_grown HO5.out (grown_only ho6) (by have := HLt3.out; omega)) h3, hB5.trans (ho6.below (Nat.le_refl _))⟩
  · go_enter Try.func50, Try.ntmps50
    go_wp2_with (with_reducible refine wpList_alloc (o := ⟨some 8, _, _, _, _, _⟩) tyTr rfl rfl ?_)
    intro w1 hk1 hb1 hs1
    have HK1 : Kp _ := ⟨hk1⟩
    clear hk1 hs1
    go_wp2_with (with_reducible refine wpList_alloc (o := ⟨some 9, _, _, _, _, _⟩) tyTr rfl rfl ?_)
    intro w2 hk2 hb2 hs2
    have HK2 : Kp _ := ⟨hk2⟩
    have HF2 : Kp _ := ⟨HK1.out.below hb2 HK1.out.lt⟩
    have hlt : w.heap.size < w1.heap.size := HK1.out.lt
    have hB2 : Below w.heap.size w w2 := hb1.trans (hb2.mono hb1.size)
    obtain ⟨g2, hg2⟩ : ∃ g, g = w1.heap.size := ⟨_, rfl⟩
    rw [← hg2] at HK2 hlt ⊢
    have hne : w.heap.size ≠ g2 := by omega
    have HLt : Kp (g2 < w2.heap.size) := ⟨HK2.out.lt⟩
    clear hs2 hk2 HK1 hb2 hb1 hg2
    have c0 : w2.cell? ⟨g2, 0, none⟩ = some (.int .i64 0) := HK2.out.cell? 0
    have f0 := HK2.out.frozen 0
    have c1 : w2.cell? ⟨g2, 1, none⟩ = some (.int .i64 0) := HK2.out.cell? 1
    have f1 := HK2.out.frozen 1
    have c2 : w2.cell? ⟨g2, 2, none⟩ = some (.int .i64 0) := HK2.out.cell? 2
    have f2 := HK2.out.frozen 2
    have c3 : w2.cell? ⟨g2, 3, none⟩ = some (.slice none 0 0) := HK2.out.cell? 3
    have f3 := HK2.out.frozen 3
    go_wp2_with fail
    have HK3 : Kp _ := ⟨HK2.out.set 2 (.int .i64 sl)⟩
    have HF3 : Kp _ := ⟨HF2.out.other (p := ⟨g2, 2, none⟩) hne (.int .i64 sl)⟩
    have hB3 : Below w.heap.size w (w2.setCell ⟨g2, 2, none⟩ (.int .i64 sl)) := hB2.setCell (by simp; omega) _
    have HLt3 : Kp (g2 < (w2.setCell ⟨g2, 2, none⟩ (.int .i64 sl)).heap.size) := ⟨by have := HLt.out; simpa using this⟩
    clear c0 c1 c2 c3 f0 f1 f2 f3 HK2 HF2 hB2
    generalize w2.setCell ⟨g2, 2, none⟩ (.int .i64 sl) = w3 at *
    refine (clone_any A n c bs _ ((HA.out.below hB3).more hB3.size) hn).mono ?_
    rintro e w4 ⟨v, rfl, ho4, hb4⟩
    obtain ⟨A4, c4', rfl, hc4, hm4, _⟩ := own_form ho4
    have HO4 : Kp _ := ⟨ho4⟩
    have HK4 : Kp _ := ⟨HK3.out.below hb4 HK3.out.lt⟩
    have HF4 : Kp _ := ⟨HF3.out.below hb4 HF3.out.lt⟩
    have hB4 : Below w.heap.size w w4 := hB3.trans (hb4.mono hB3.size)
    clear ho4 HK3 HF3
    have c0 : w4.cell? ⟨g2, 0, none⟩ = some (.int .i64 0) := HK4.out.cell? 0
    have f0 := HK4.out.frozen 0
    have c1 : w4.cell? ⟨g2, 1, none⟩ = some (.int .i64 0) := HK4.out.cell? 1
    have f1 := HK4.out.frozen 1
    have c2 : w4.cell? ⟨g2, 2, none⟩ = some (.int .i64 sl) := HK4.out.cell? 2
    have f2 := HK4.out.frozen 2
    have c3 : w4.cell? ⟨g2, 3, none⟩ = some (.slice none 0 0) := HK4.out.cell? 3
    have f3 := HK4.out.frozen 3
    have HK5 : Kp (Blk (((w4.setCell ⟨g2, 1, none⟩ (.int .i64 pl)).setCell ⟨g2, 3, none⟩ (.slice A4 n c4')).setCell ⟨g2, 0, none⟩ (.int .i64 2)) g2 61 (hd4 (2, pl, sl, A4, n, c4'))) := ⟨((HK4.out.set 1 (.int .i64 pl)).set 3 (.slice A4 n c4')).set 0 (.int .i64 2)⟩
    have HF5 : Kp (Blk (((w4.setCell ⟨g2, 1, none⟩ (.int .i64 pl)).setCell ⟨g2, 3, none⟩ (.slice A4 n c4')).setCell ⟨g2, 0, none⟩ (.int .i64 2)) w.heap.size 61 zeroTr) := ⟨((HF4.out.other (p := ⟨g2, 1, none⟩) hne _).other (p := ⟨g2, 3, none⟩) hne _).other (p := ⟨g2, 0, none⟩) hne _⟩
    have hB5 : Below w.heap.size w (((w4.setCell ⟨g2, 1, none⟩ (.int .i64 pl)).setCell ⟨g2, 3, none⟩ (.slice A4 n c4')).setCell ⟨g2, 0, none⟩ (.int .i64 2)) := ((hB4.setCell (p := ⟨g2, 1, none⟩) (by simp; omega) _).setCell (p := ⟨g2, 3, none⟩) (by simp; omega) _).setCell (p := ⟨g2, 0, none⟩) (by simp; omega) _
    have HO5 : Kp ((((w4.setCell ⟨g2, 1, none⟩ (.int .i64 pl)).setCell ⟨g2, 3, none⟩ (.slice A4 n c4')).setCell ⟨g2, 0, none⟩ (.int .i64 2)).ownsRow w3.heap.size 5 1 (.slice A4 n c4') n (cells8 bs)) := ⟨own_grown (own_grown (own_grown HO4.out (grown_set _ g2 1 _) HLt3.out) (grown_set _ g2 3 _) HLt3.out) (grown_set _ g2 0 _) HLt3.out⟩
    have HV : Kp (([.int .i64 2, .int .i64 pl, .int .i64 sl, .slice A4 n c4'] : List Value).length = 4) := ⟨rfl⟩
    have HO : Kp (∀ u ∈ ([.int .i64 2, .int .i64 pl, .int .i64 sl, .slice A4 n c4'] : List Value), u.oneCell' = true) := ⟨hd4_one (2, pl, sl, A4, n, c4')⟩
    have h3 := hB3.size
    go_wp2_with (with_reducible refine wpList_storeAll (o := ⟨none, _, _, _, _, _⟩) (vs := [.int .i64 2, .int .i64 pl, .int .i64 sl, .slice A4 n c4']) rwTr rfl (.tmp 8) (.tmp 28) rfl rfl HF5.out HZ.out HV.out HO.out rfl ?_)
    intro w6 hk6 ho6
    go_wp2
    refine ret_arr rfl rwTr rfl hk6 HV.out rfl ?_
    exact ⟨A4, c4', rfl, own_lower (own_grown HO5.out (grown_only ho6) (by have := HLt3.out; omega)) h3, hB5.trans (ho6.below (Nat.le_refl _))⟩
  · go_enter Try.func50, Try.ntmps50
    go_wp2_with (with_reducible refine wpList_alloc (o := ⟨some 8, _, _, _, _, _⟩) tyTr rfl rfl ?_)
    intro w1 hk1 hb1 hs1
    have HK1 : Kp _ := ⟨hk1⟩
    clear hk1 hs1
    go_wp2_with (with_reducible refine wpList_alloc (o := ⟨some 9, _, _, _, _, _⟩) tyTr rfl rfl ?_)
    intro w2 hk2 hb2 hs2
    have HK2 : Kp _ := ⟨hk2⟩
    have HF2 : Kp _ := ⟨HK1.out.below hb2 HK1.out.lt⟩
    have hlt : w.heap.size < w1.heap.size := HK1.out.lt
    have hB2 : Below w.heap.size w w2 := hb1.trans (hb2.mono hb1.size)
    obtain ⟨g2, hg2⟩ : ∃ g, g = w1.heap.size := ⟨_, rfl⟩
    rw [← hg2] at HK2 hlt ⊢
    have hne : w.heap.size ≠ g2 := by omega
    have HLt : Kp (g2 < w2.heap.size) := ⟨HK2.out.lt⟩
    clear hs2 hk2 HK1 hb2 hb1 hg2
    have c0 : w2.cell? ⟨g2, 0, none⟩ = some (.int .i64 0) := HK2.out.cell? 0
    have f0 := HK2.out.frozen 0
    have c1 : w2.cell? ⟨g2, 1, none⟩ = some (.int .i64 0) := HK2.out.cell? 1
    have f1 := HK2.out.frozen 1
    have c2 : w2.cell? ⟨g2, 2, none⟩ = some (.int .i64 0) := HK2.out.cell? 2
    have f2 := HK2.out.frozen 2
    have c3 : w2.cell? ⟨g2, 3, none⟩ = some (.slice none 0 0) := HK2.out.cell? 3
    have f3 := HK2.out.frozen 3
    go_wp2_with fail
    have HK3 : Kp _ := HK2
    have HF3 : Kp _ := HF2
    have hB3 := hB2
    have HLt3 : Kp _ := HLt
    clear c0 c1 c2 c3 f0 f1 f2 f3 HK2 HF2 hB2
    obtain ⟨w3, rfl⟩ : ∃ x, x = w2 := ⟨_, rfl⟩
    refine (clone_any A n c bs _ ((HA.out.below hB3).more hB3.size) hn).mono ?_
    rintro e w4 ⟨v, rfl, ho4, hb4⟩
    obtain ⟨A4, c4', rfl, hc4, hm4, _⟩ := own_form ho4
    have HO4 : Kp _ := ⟨ho4⟩
    have HK4 : Kp _ := ⟨HK3.out.below hb4 HK3.out.lt⟩
    have HF4 : Kp _ := ⟨HF3.out.below hb4 HF3.out.lt⟩
    have hB4 : Below w.heap.size w w4 := hB3.trans (hb4.mono hB3.size)
    clear ho4 HK3 HF3
    have c0 : w4.cell? ⟨g2, 0, none⟩ = some (.int .i64 0) := HK4.out.cell? 0
    have f0 := HK4.out.frozen 0
    have c1 : w4.cell? ⟨g2, 1, none⟩ = some (.int .i64 0) := HK4.out.cell? 1
    have f1 := HK4.out.frozen 1
    have c2 : w4.cell? ⟨g2, 2, none⟩ = some (.int .i64 0) := HK4.out.cell? 2
    have f2 := HK4.out.frozen 2
    have c3 : w4.cell? ⟨g2, 3, none⟩ = some (.slice none 0 0) := HK4.out.cell? 3
    have f3 := HK4.out.frozen 3
    have HK5 : Kp (Blk (((w4.setCell ⟨g2, 1, none⟩ (.int .i64 pl)).setCell ⟨g2, 3, none⟩ (.slice A4 n c4')).setCell ⟨g2, 0, none⟩ (.int .i64 3)) g2 61 (hd4 (3, pl, 0, A4, n, c4'))) := ⟨((HK4.out.set 1 (.int .i64 pl)).set 3 (.slice A4 n c4')).set 0 (.int .i64 3)⟩
    have HF5 : Kp (Blk (((w4.setCell ⟨g2, 1, none⟩ (.int .i64 pl)).setCell ⟨g2, 3, none⟩ (.slice A4 n c4')).setCell ⟨g2, 0, none⟩ (.int .i64 3)) w.heap.size 61 zeroTr) := ⟨((HF4.out.other (p := ⟨g2, 1, none⟩) hne _).other (p := ⟨g2, 3, none⟩) hne _).other (p := ⟨g2, 0, none⟩) hne _⟩
    have hB5 : Below w.heap.size w (((w4.setCell ⟨g2, 1, none⟩ (.int .i64 pl)).setCell ⟨g2, 3, none⟩ (.slice A4 n c4')).setCell ⟨g2, 0, none⟩ (.int .i64 3)) := ((hB4.setCell (p := ⟨g2, 1, none⟩) (by simp; omega) _).setCell (p := ⟨g2, 3, none⟩) (by simp; omega) _).setCell (p := ⟨g2, 0, none⟩) (by simp; omega) _
    have HO5 : Kp ((((w4.setCell ⟨g2, 1, none⟩ (.int .i64 pl)).setCell ⟨g2, 3, none⟩ (.slice A4 n c4')).setCell ⟨g2, 0, none⟩ (.int .i64 3)).ownsRow w3.heap.size 5 1 (.slice A4 n c4') n (cells8 bs)) := ⟨own_grown (own_grown (own_grown HO4.out (grown_set _ g2 1 _) HLt3.out) (grown_set _ g2 3 _) HLt3.out) (grown_set _ g2 0 _) HLt3.out⟩
    have HV : Kp (([.int .i64 3, .int .i64 pl, .int .i64 0, .slice A4 n c4'] : List Value).length = 4) := ⟨rfl⟩
    have HO : Kp (∀ u ∈ ([.int .i64 3, .int .i64 pl, .int .i64 0, .slice A4 n c4'] : List Value), u.oneCell' = true) := ⟨hd4_one (3, pl, 0, A4, n, c4')⟩
    have h3 := hB3.size
    go_wp2_with (with_reducible refine wpList_storeAll (o := ⟨none, _, _, _, _, _⟩) (vs := [.int .i64 3, .int .i64 pl, .int .i64 0, .slice A4 n c4']) rwTr rfl (.tmp 8) (.tmp 28) rfl rfl HF5.out HZ.out HV.out HO.out rfl ?_)
    intro w6 hk6 ho6
    go_wp2
    refine ret_arr rfl rwTr rfl hk6 HV.out rfl ?_
    exact ⟨A4, c4', rfl, own_lower (own_grown HO5.out (grown_only ho6) (by have := HLt3.out; omega)) h3, hB5.trans (ho6.below (Nat.le_refl _))⟩
  · go_enter Try.func50, Try.ntmps50
    go_wp2_with (with_reducible refine wpList_alloc (o := ⟨some 8, _, _, _, _, _⟩) tyTr rfl rfl ?_)
    intro w1 hk1 hb1 hs1
    have HK1 : Kp _ := ⟨hk1⟩
    clear hk1 hs1
    go_wp2_with (with_reducible refine wpList_alloc (o := ⟨some 9, _, _, _, _, _⟩) tyTr rfl rfl ?_)
    intro w2 hk2 hb2 hs2
    have HK2 : Kp _ := ⟨hk2⟩
    have HF2 : Kp _ := ⟨HK1.out.below hb2 HK1.out.lt⟩
    have hlt : w.heap.size < w1.heap.size := HK1.out.lt
    have hB2 : Below w.heap.size w w2 := hb1.trans (hb2.mono hb1.size)
    obtain ⟨g2, hg2⟩ : ∃ g, g = w1.heap.size := ⟨_, rfl⟩
    rw [← hg2] at HK2 hlt ⊢
    have hne : w.heap.size ≠ g2 := by omega
    have HLt : Kp (g2 < w2.heap.size) := ⟨HK2.out.lt⟩
    clear hs2 hk2 HK1 hb2 hb1 hg2
    have c0 : w2.cell? ⟨g2, 0, none⟩ = some (.int .i64 0) := HK2.out.cell? 0
    have f0 := HK2.out.frozen 0
    have c1 : w2.cell? ⟨g2, 1, none⟩ = some (.int .i64 0) := HK2.out.cell? 1
    have f1 := HK2.out.frozen 1
    have c2 : w2.cell? ⟨g2, 2, none⟩ = some (.int .i64 0) := HK2.out.cell? 2
    have f2 := HK2.out.frozen 2
    have c3 : w2.cell? ⟨g2, 3, none⟩ = some (.slice none 0 0) := HK2.out.cell? 3
    have f3 := HK2.out.frozen 3
    go_wp2_with fail
    have HK3 : Kp _ := HK2
    have HF3 : Kp _ := HF2
    have hB3 := hB2
    have HLt3 : Kp _ := HLt
    clear c0 c1 c2 c3 f0 f1 f2 f3 HK2 HF2 hB2
    obtain ⟨w3, rfl⟩ : ∃ x, x = w2 := ⟨_, rfl⟩
    refine (clone_any A n c bs _ ((HA.out.below hB3).more hB3.size) hn).mono ?_
    rintro e w4 ⟨v, rfl, ho4, hb4⟩
    obtain ⟨A4, c4', rfl, hc4, hm4, _⟩ := own_form ho4
    have HO4 : Kp _ := ⟨ho4⟩
    have HK4 : Kp _ := ⟨HK3.out.below hb4 HK3.out.lt⟩
    have HF4 : Kp _ := ⟨HF3.out.below hb4 HF3.out.lt⟩
    have hB4 : Below w.heap.size w w4 := hB3.trans (hb4.mono hB3.size)
    clear ho4 HK3 HF3
    have c0 : w4.cell? ⟨g2, 0, none⟩ = some (.int .i64 0) := HK4.out.cell? 0
    have f0 := HK4.out.frozen 0
    have c1 : w4.cell? ⟨g2, 1, none⟩ = some (.int .i64 0) := HK4.out.cell? 1
    have f1 := HK4.out.frozen 1
    have c2 : w4.cell? ⟨g2, 2, none⟩ = some (.int .i64 0) := HK4.out.cell? 2
    have f2 := HK4.out.frozen 2
    have c3 : w4.cell? ⟨g2, 3, none⟩ = some (.slice none 0 0) := HK4.out.cell? 3
    have f3 := HK4.out.frozen 3
    have HK5 : Kp (Blk (((w4.setCell ⟨g2, 1, none⟩ (.int .i64 pl)).setCell ⟨g2, 3, none⟩ (.slice A4 n c4')).setCell ⟨g2, 0, none⟩ (.int .i64 4)) g2 61 (hd4 (4, pl, 0, A4, n, c4'))) := ⟨((HK4.out.set 1 (.int .i64 pl)).set 3 (.slice A4 n c4')).set 0 (.int .i64 4)⟩
    have HF5 : Kp (Blk (((w4.setCell ⟨g2, 1, none⟩ (.int .i64 pl)).setCell ⟨g2, 3, none⟩ (.slice A4 n c4')).setCell ⟨g2, 0, none⟩ (.int .i64 4)) w.heap.size 61 zeroTr) := ⟨((HF4.out.other (p := ⟨g2, 1, none⟩) hne _).other (p := ⟨g2, 3, none⟩) hne _).other (p := ⟨g2, 0, none⟩) hne _⟩
    have hB5 : Below w.heap.size w (((w4.setCell ⟨g2, 1, none⟩ (.int .i64 pl)).setCell ⟨g2, 3, none⟩ (.slice A4 n c4')).setCell ⟨g2, 0, none⟩ (.int .i64 4)) := ((hB4.setCell (p := ⟨g2, 1, none⟩) (by simp; omega) _).setCell (p := ⟨g2, 3, none⟩) (by simp; omega) _).setCell (p := ⟨g2, 0, none⟩) (by simp; omega) _
    have HO5 : Kp ((((w4.setCell ⟨g2, 1, none⟩ (.int .i64 pl)).setCell ⟨g2, 3, none⟩ (.slice A4 n c4')).setCell ⟨g2, 0, none⟩ (.int .i64 4)).ownsRow w3.heap.size 5 1 (.slice A4 n c4') n (cells8 bs)) := ⟨own_grown (own_grown (own_grown HO4.out (grown_set _ g2 1 _) HLt3.out) (grown_set _ g2 3 _) HLt3.out) (grown_set _ g2 0 _) HLt3.out⟩
    have HV : Kp (([.int .i64 4, .int .i64 pl, .int .i64 0, .slice A4 n c4'] : List Value).length = 4) := ⟨rfl⟩
    have HO : Kp (∀ u ∈ ([.int .i64 4, .int .i64 pl, .int .i64 0, .slice A4 n c4'] : List Value), u.oneCell' = true) := ⟨hd4_one (4, pl, 0, A4, n, c4')⟩
    have h3 := hB3.size
    go_wp2_with (with_reducible refine wpList_storeAll (o := ⟨none, _, _, _, _, _⟩) (vs := [.int .i64 4, .int .i64 pl, .int .i64 0, .slice A4 n c4']) rwTr rfl (.tmp 8) (.tmp 28) rfl rfl HF5.out HZ.out HV.out HO.out rfl ?_)
    intro w6 hk6 ho6
    go_wp2
    refine ret_arr rfl rwTr rfl hk6 HV.out rfl ?_
    exact ⟨A4, c4', rfl, own_lower (own_grown HO5.out (grown_only ho6) (by have := HLt3.out; omega)) h3, hB5.trans (ho6.below (Nat.le_refl _))⟩
  · go_enter Try.func50, Try.ntmps50
    go_wp2_with (with_reducible refine wpList_alloc (o := ⟨some 8, _, _, _, _, _⟩) tyTr rfl rfl ?_)
    intro w1 hk1 hb1 hs1
    have HK1 : Kp _ := ⟨hk1⟩
    clear hk1 hs1
    go_wp2_with (with_reducible refine wpList_alloc (o := ⟨some 9, _, _, _, _, _⟩) tyTr rfl rfl ?_)
    intro w2 hk2 hb2 hs2
    have HK2 : Kp _ := ⟨hk2⟩
    have HF2 : Kp _ := ⟨HK1.out.below hb2 HK1.out.lt⟩
    have hlt : w.heap.size < w1.heap.size := HK1.out.lt
    have hB2 : Below w.heap.size w w2 := hb1.trans (hb2.mono hb1.size)
    obtain ⟨g2, hg2⟩ : ∃ g, g = w1.heap.size := ⟨_, rfl⟩
    rw [← hg2] at HK2 hlt ⊢
    have hne : w.heap.size ≠ g2 := by omega
    have HLt : Kp (g2 < w2.heap.size) := ⟨HK2.out.lt⟩
    clear hs2 hk2 HK1 hb2 hb1 hg2
    have c0 : w2.cell? ⟨g2, 0, none⟩ = some (.int .i64 0) := HK2.out.cell? 0
    have f0 := HK2.out.frozen 0
    have c1 : w2.cell? ⟨g2, 1, none⟩ = some (.int .i64 0) := HK2.out.cell? 1
    have f1 := HK2.out.frozen 1
    have c2 : w2.cell? ⟨g2, 2, none⟩ = some (.int .i64 0) := HK2.out.cell? 2
    have f2 := HK2.out.frozen 2
    have c3 : w2.cell? ⟨g2, 3, none⟩ = some (.slice none 0 0) := HK2.out.cell? 3
    have f3 := HK2.out.frozen 3
    have HK5 : Kp _ := ⟨HK2.out.set 0 (.int .i64 5)⟩
    have HF5 : Kp _ := ⟨HF2.out.other (p := ⟨g2, 0, none⟩) hne (.int .i64 5)⟩
    have hB5 : Below w.heap.size w (w2.setCell ⟨g2, 0, none⟩ (.int .i64 5)) := hB2.setCell (by simp; omega) _
    have HV : Kp (([.int .i64 5, .int .i64 0, .int .i64 0, .slice none 0 0] : List Value).length = 4) := ⟨rfl⟩
    have HO : Kp (∀ u ∈ ([.int .i64 5, .int .i64 0, .int .i64 0, .slice none 0 0] : List Value), u.oneCell' = true) := ⟨hd4_one (5, 0, 0, none, 0, 0)⟩
    obtain rfl : n = 0 := by have := HL.out; simpa using this.symm
    go_wp2_with (with_reducible refine wpList_storeAll (o := ⟨none, _, _, _, _, _⟩) (vs := [.int .i64 5, .int .i64 0, .int .i64 0, .slice none 0 0]) rwTr rfl (.tmp 8) (.tmp 28) rfl rfl HF5.out HZ.out HV.out HO.out rfl ?_)
    intro w6 hk6 ho6
    go_wp2
    refine ret_arr rfl rwTr rfl hk6 HV.out rfl ?_
    exact ⟨none, 0, rfl, own_nil _ _ _, hB5.trans (ho6.below (Nat.le_refl _))⟩
end Go.Proofs.Ytpbpegoobgfjcaa

namespace Go.Proofs.Ytpbpegoobgfjcaa
open Go.RowKit

theorem infoTr : ((Try.prog).info? 61).map (fun i => (i.zero, i.size, i.bytes)) = some (some (.agg zeroTr.toArray), 4, 48) := by kernel_rfl
section
variable {w : World} {ops : Array Oper} {o : Oper} {a : Act} {Q : Exit → Act → World → Prop}
/-- append of one traced thing, as a step of a region whose order is open -/
theorem step_appT {K : Act → World → Prop} {C : Prop} (hgd : o.guard = none) (s x : Operand)
    (ho : o.op = .call { callee := .builtin .append, args := #[s, x], argTypes := #[40, 40] })
    (v : Value) (n : Nat) (L : List Hd4) (hs : a.eval s = v) (hown : w.ownsRow 0 61 4 v n (trCells L)) (hd : Hd4) (g : Nat)
    (hx : a.eval x = .slice (some ⟨g, 0, none⟩) 1 1) (hb : Blk w g 61 (hd4 hd)) (h63 : n ≤ 1000000)
    (h : ∀ v' w', w'.ownsRow 0 61 4 v' (n + 1) (trCells L ++ hd4 hd) → w.grownBy w' v.ownBlock → (v'.ownBlock = v.ownBlock ∨ v'.ownBlock = some w.heap.size) → K (a.put o.dst v') w') :
    if Region.wanted o (yielded ops a.tmps) = true then Oper.wp Try.prog o a w K Q else C := by
  have hw : Region.wanted o (yielded ops a.tmps) = true := by simp [Region.wanted, hgd]
  rw [if_pos hw]
  obtain ⟨i, hi, hz0, hz1, hz2⟩ := info_parts infoTr
  obtain ⟨v', w', hrun, h2, h3, _, h5⟩ := run_append_own_at (P := Try.prog) w 0 40 o.type 61 i (.agg zeroTr.toArray) 4 48 Try.underlying40 hi hz0 hz1 hz2 rfl (by decide) v n (trCells L) hown ⟨g, 0, none⟩ 1 1 (hd4 hd) rfl
    (fun j u hu => by rw [Addr.add_lit, Nat.zero_add, hb.cell? j]; exact hu) (hd4_one hd) (by simp only [maxLen]; omega) (by omega) (Nat.zero_le _)
  unfold Oper.wp execOp
  simp only [ho, resolve, invoke, builtin, Sem.run_bind, Sem.run_pure, Result.andThen_ok, List.map_toArray, List.map_cons, List.map_nil, hs, hx, hrun]
  exact h v' w' h2 h3 h5
end

theorem Tc.later {O M : Nat → Prop} {vt : Value} {tr : List Tr} {L : List Hd4} {w w' : World} (h : Tc w O M vt tr L) (hb : Below w.heap.size w w') : w'.ownsRow 0 61 4 vt tr.length (trCells L) :=
  own4_stay h.own (fun g hg => hb.block g (by obtain ⟨cs, hh⟩ := h.row hg; exact (Array.getElem?_eq_some_iff.1 hh).1))
theorem own_slice {w : World} {base size n : Nat} {e : TypeId} {v : Value} {xs : List Value} (h : w.ownsRow base e size v n xs) : ∃ A n c, v = .slice A n c := by
  rcases h.2 with ⟨rfl, _⟩ | ⟨g, cap, cur, rfl, _⟩
  · exact ⟨_, _, _, rfl⟩
  · exact ⟨_, _, _, rfl⟩
def noteO (O : Nat → Prop) (v : Value) : Nat → Prop := fun k => O k ∨ v.ownBlock = some k
theorem note_parts {O M : Nat → Prop} {b : Nat} {ad : Ad} {t : Wd} {p : Int × Int → Option Nat} {L : List Hd4} {w w1 w2 w3 : World} (h : Parts w O M b ad t p L) {x : Tr} (hk : TrOk x) {A : Option Addr} {n c : Nat} (hb1 : Below w.heap.size w w1)
    (hrow : w1.ownsRow w.heap.size 5 1 (.slice A n c) n (cells8 x.bytes)) (hn : n ≤ 4294967296) {v : Value} (hb2 : Below w1.heap.size w1 w2) (hown : w3.ownsRow 0 61 4 v (t.tr.length + 1) (trCells L ++ hd4 (x.kind, x.pl, x.slot, A, n, c))) (hg : w2.grownBy w3 ad.vt.ownBlock)
    (hloc : v.ownBlock = ad.vt.ownBlock ∨ v.ownBlock = some w2.heap.size) :
    Blk w3 b 75 (wdCells ad t) ∧ Parts (w3.setCell ⟨b, 9, none⟩ v) (noteO O v) (Or2 M (noteO O v)) b { ad with vt := v } { t with tr := t.tr ++ [x] } p (L ++ [(x.kind, x.pl, x.slot, A, n, c)]) ∧ Nx w O (w3.setCell ⟨b, 9, none⟩ v) (noteO O v) := by
  have hOlt : ∀ k, O k → k < w.heap.size := fun k hk => h.lt k (h.sub k hk)
  have C12 : Chg O w1 w2 := Chg.of_below O hb2
  have C23 : Chg O w2 w3 := Chg.of_grown hg (fun g e => h.trace.mine g e)
  have C13 : Chg O w1 w3 := C12.trans C23 (fun _ _ h => h)
  have C03 : Chg O w w3 := (Chg.of_below O hb1).trans C13 (fun _ _ h => h)
  have keep3 : ∀ k, O k → ad.vt.ownBlock ≠ some k → w3.heap[k]? = w.heap[k]? := fun k hk hne => by
    have hkl := hOlt k hk
    rw [hg.block k (by have := hb1.size; have := hb2.size; omega) (fun e => hne e.symm), hb2.block k (by have := hb1.size; omega), hb1.block k hkl]
  have hbv : ad.vt.ownBlock ≠ some b := fun e => (h.trace.row e).ne h.blk.row (by decide) rfl
  have B3 : Blk w3 b 75 (wdCells ad t) := ⟨(keep3 b h.ob hbv).trans h.blk.heap⟩
  have C34 : Only b w3 (w3.setCell ⟨b, 9, none⟩ v) := Only.setCell w3 ⟨b, 9, none⟩ v
  have C04 : Chg O w (w3.setCell ⟨b, 9, none⟩ v) := C03.trans (Chg.of_only (S := O) C34 h.ob) (fun _ _ h => h)
  have C14 : Chg O w1 (w3.setCell ⟨b, 9, none⟩ v) := C13.trans (Chg.of_only (S := O) C34 h.ob) (fun _ _ h => h)
  have keep4 : ∀ k, O k → ad.vt.ownBlock ≠ some k → k ≠ b → (w3.setCell ⟨b, 9, none⟩ v).heap[k]? = w.heap[k]? := fun k hk hne hb => (C34.block k hb).trans (keep3 k hk hne)
  have hv3 : ∀ g, v.ownBlock = some g → IsRow w3 61 g := fun g hg => by
    rcases hown.2 with ⟨rfl, _⟩ | ⟨g', cap, cur, rfl, _, hh, _⟩
    · cases hg
    · obtain rfl : g' = g := Option.some.inj hg
      exact ⟨_, hh⟩
  have hnew : ∀ k, noteO O v k → O k ∨ w1.heap.size ≤ k := fun k hk => by
    rcases hk with h1 | h1
    · exact .inl h1
    · rcases hloc with e | e
      · exact .inl (h.trace.mine k (e ▸ h1))
      · rw [e] at h1
        have := Option.some.inj h1
        right; rw [← this]; exact hb2.size
  have NX : Nx w O (w3.setCell ⟨b, 9, none⟩ v) (noteO O v) := by
    refine ⟨C04, fun k hk => .inl hk, fun k hk => (hnew k hk).imp id (fun h2 => Nat.le_trans hb1.size h2), fun k hk => ?_⟩
    rcases hk with h1 | h1
    · exact Nat.lt_of_lt_of_le (hOlt k h1) C04.size
    · obtain ⟨cs, hh⟩ := hv3 k h1
      have := (Array.getElem?_eq_some_iff.1 hh).1
      simpa [World.setCell] using this
  have hM1 : ∀ k, Or2 M (noteO O v) k → M k ∨ w1.heap.size ≤ k := fun k hk => by
    rcases hk with h1 | h1
    · exact .inl h1
    · exact (hnew k h1).imp (h.sub k) id
  have hM0 : ∀ k, Or2 M (noteO O v) k → M k ∨ w.heap.size ≤ k := or2_new h.sub NX
  refine ⟨B3, ⟨fun k hk => .inr hk, or2_lt h.lt NX, .inl h.ob, ?_, ?_, ?_, ?_, ?_, ?_, h.big, h.pow, h.num, h.read, h.two⟩, NX⟩
  · exact B3.set 9 v
  · refine h.slots.stay (fun k hk => .inl hk) (fun k hk hkk => keep4 k hk (fun e => ?_) ?_)
    · rcases hkk with h1 | h1
      · exact h1.ne (h.trace.row e) rfl
      · exact h1.ne (h.trace.row e) (by decide) rfl
    · rcases hkk with h1 | h1
      · exact h1.ne h.blk.row
      · exact h1.ne h.blk.row (by decide)
  · exact h.lies.stay (fun k hk => .inl hk) (fun k hk hkk => keep4 k hk (fun e => hkk.ne (h.trace.row e) rfl) (hkk.ne h.blk.row)) C04 h.sub hM0
  · exact h.seal0.chg C04 h.sub hM0
  · exact h.seal1.chg C04 h.sub hM0
  · obtain ⟨A2, c2, e2, hbs⟩ := BsM.of_own (M := M) hrow h.lt hn
    obtain ⟨rfl, rfl⟩ : A2 = A ∧ c2 = c := by injection e2 with e3 e4 e5; exact ⟨e3.symm, e5.symm⟩
    refine ⟨?_, fun g hg => .inr hg, ?_⟩
    · simp only [List.length_append, List.length_singleton, trCells_append]
      have : trCells [(x.kind, x.pl, x.slot, A2, n, c2)] = hd4 (x.kind, x.pl, x.slot, A2, n, c2) := by simp [trCells]
      rw [this]
      exact own4_stay hown (fun g hg => C34.block g ((hv3 g hg).ne B3.row (by decide)))
    · exact (h.trace.heads.chg C04 h.sub hM0).snoc ⟨hk, rfl, rfl, rfl, hbs.chg C14 h.sub hM1⟩

set_option maxRecDepth 100000 in
set_option maxHeartbeats 4000000 in
theorem note_any {O M : Nat → Prop} {b : Nat} {ad : Ad} {t : Wd} {p : Int × Int → Option Nat} {L : List Hd4} {w : World} (h : Parts w O M b ad t p L) (x : Tr) (hk : TrOk x) (A : Option Addr) (n c : Nat) (ha : Bs w w.heap.size A n c x.bytes) (hn : n ≤ 4294967296) (hlen : t.tr.length ≤ 1000000) :
    Calls Try.prog 34 #[.pointer (some ⟨b, 0, none⟩), .int .i64 x.kind, .int .i64 x.pl, .int .i64 x.slot, .slice A n c] w fun e w' => e = .returned (.tuple #[]) ∧
      ∃ ad' L' O', Parts w' O' (Or2 M O') b ad' { t with tr := t.tr ++ [x] } p L' ∧ Nx w O w' O' := by
  have hP0 := h.below (Below.refl w.heap.size w).drew
  have hA0 : Bs w.drew w.drew.heap.size A n c x.bytes := ha.drew
  have hN0 : Nx w O w.drew O := Nx.same (Chg.drew0 O w) (fun k hk => h.lt k (h.sub k hk))
  go_enter Try.func34, Try.ntmps34
  go_wp2_with fail
  clear h ha
  refine wp_region_any (by kernel_rfl) ?_
  change wpAny _ _ _ _ _ _ _ w.drew
  generalize w.drew = wS at *
  have HP : Kp _ := ⟨hP0⟩
  have HA : Kp _ := ⟨hA0⟩
  have HN : Kp _ := ⟨hN0⟩
  have hb0 : Below wS.heap.size wS wS := Below.refl _ _
  have HX : Kp (∀ W, Below wS.heap.size wS W → W.cell? ⟨b, 9, none⟩ = some ad.vt) := ⟨fun W hW => by rw [(hP0.blk.below hW hP0.blk.lt).cell? 9]; rfl⟩
  clear hP0 hA0 hN0
  refine wpAny_take (i := 0) (oi := ⟨some 10, _, _, _, _, _⟩) (v := ?_) rfl (by kernel_rfl) (by kernel_rfl) (by kernel_rfl) (fun _ _ _ h => h) (Or.inl ⟨by rfl, by intro w; go_simp; try rfl⟩) ?_
  try simp only [Act.put, List.setIfInBounds_toArray, List.set_cons_zero, List.set_cons_succ]
  refine wpAny_take (i := 1) (oi := ⟨some 11, _, _, _, _, _⟩) (v := ?_) rfl (by kernel_rfl) (by kernel_rfl) (by kernel_rfl) (fun _ _ _ h => h) (Or.inl ⟨by rfl, by intro w; go_simp; try rfl⟩) ?_
  try simp only [Act.put, List.setIfInBounds_toArray, List.set_cons_zero, List.set_cons_succ]
  refine wpAny_take (i := 2) (oi := ⟨some 12, _, _, _, _, _⟩) (v := ?_) rfl (by kernel_rfl) (by kernel_rfl) (by kernel_rfl) (fun _ _ _ h => h) (Or.inl ⟨by rfl, by intro w; go_simp; try rfl⟩) ?_
  try simp only [Act.put, List.setIfInBounds_toArray, List.set_cons_zero, List.set_cons_succ]
  refine wpAny_take (i := 3) (oi := ⟨some 13, _, _, _, _, _⟩) (v := ?_) rfl (by kernel_rfl) (by kernel_rfl) (by kernel_rfl) (fun _ _ _ h => h) (Or.inl ⟨by rfl, by intro w; go_simp; try rfl⟩) ?_
  try simp only [Act.put, List.setIfInBounds_toArray, List.set_cons_zero, List.set_cons_succ]
  refine wpAny_take (i := 5) (oi := ⟨some 15, _, _, _, _, _⟩) (v := ?_) rfl (by kernel_rfl) (by kernel_rfl) (by kernel_rfl) (fun _ _ _ h => h) (Or.inl ⟨by rfl, by intro w; go_simp; try rfl⟩) ?_
  try simp only [Act.put, List.setIfInBounds_toArray, List.set_cons_zero, List.set_cons_succ]
  refine wpAny_take (i := 6) (oi := ⟨some 16, _, _, _, _, _⟩) (v := ?_) rfl (by kernel_rfl) (by kernel_rfl) (by kernel_rfl) (fun _ _ _ h => h) (Or.inl ⟨by rfl, by intro w; go_simp; try rfl⟩) ?_
  try simp only [Act.put, List.setIfInBounds_toArray, List.set_cons_zero, List.set_cons_succ]
  refine wpAny_take (i := 7) (oi := ⟨some 17, _, _, _, _, _⟩) (v := ?_) rfl (by kernel_rfl) (by kernel_rfl) (by kernel_rfl) (fun _ _ _ h => h) (Or.inl ⟨by rfl, by intro w; go_simp; try rfl⟩) ?_
  try simp only [Act.put, List.setIfInBounds_toArray, List.set_cons_zero, List.set_cons_succ]
  refine wpAny_take (i := 8) (oi := ⟨some 18, _, _, _, _, _⟩) (v := ?_) rfl (by kernel_rfl) (by kernel_rfl) (by kernel_rfl) (fun _ _ _ h => h) (Or.inl ⟨by rfl, by intro w; go_simp; try rfl⟩) ?_
  try simp only [Act.put, List.setIfInBounds_toArray, List.set_cons_zero, List.set_cons_succ]
  refine wpAny_ready (rs := [4, 9]) (by kernel_rfl) (by simp) ?_
  refine AllReady.cons (o := ⟨some 14, _, _, _, _, _⟩) rfl (fun K hK => ?_) (AllReady.cons (o := ⟨some 19, _, _, _, _, _⟩) rfl (fun K hK => ?_) AllReady.nil)
  · have c9 := HX.out wS hb0
    go_simp
    refine hK _ _ ?_
    clear hK K c9
    try simp only [Act.put, List.setIfInBounds_toArray, List.set_cons_zero, List.set_cons_succ]
    refine wpAny_ready (rs := [9]) (by kernel_rfl) (by simp) ?_
    refine AllReady.cons (o := ⟨some 19, _, _, _, _, _⟩) rfl (fun K hK => ?_) AllReady.nil
    go_simp
    refine (traced_any x hk A n c wS HA.out hn).mono ?_
    rintro e w62 ⟨A', c', rfl, ho', hb0'⟩
    replace hb0 := hb0'
    have HO : Kp _ := ⟨And.intro ho' hb0'⟩
    clear ho' hb0'
    simp only [hd4]
    refine hK _ _ ?_
    clear hK K
    try simp only [Act.put, List.setIfInBounds_toArray, List.set_cons_zero, List.set_cons_succ]
    refine wpAny_ready (rs := [10]) (by kernel_rfl) (by simp) ?_
    refine AllReady.cons (o := ⟨some 20, _, _, _, _, _⟩) rfl (fun K hK => ?_) AllReady.nil
    have HB2 : Kp _ := ⟨And.intro (Blk.new w62 61 (hd4 (x.kind, x.pl, x.slot, A', n, c'))) ((Below.refl w62.heap.size w62).alloc (Nat.le_refl _) (.cells (hd4 (x.kind, x.pl, x.slot, A', n, c')).toArray 61))⟩
    have hgs : w62.heap.size = w62.heap.size := rfl
    generalize hgg : w62.heap.size = g2 at HB2 ⊢
    simp only [hd4] at HB2
    go_simp
    try rw [hgg]
    refine hK _ _ ?_
    clear hK K
    try simp only [Act.put, List.setIfInBounds_toArray, List.set_cons_zero, List.set_cons_succ]
    replace hb0 := hb0.trans (HB2.out.2.mono (by rw [← hgg]; exact hb0.size))
    generalize w62.alloc (.cells #[.int .i64 x.kind, .int .i64 x.pl, .int .i64 x.slot, .slice A' n c'] 61) = w63 at *
    refine wpAny_ready (rs := [11]) (by kernel_rfl) (by simp) ?_
    refine AllReady.cons (o := ⟨some 21, _, _, _, _, _⟩) rfl (fun K hK => ?_) AllReady.nil
    refine step_appT rfl (.tmp 14) (.tmp 20) rfl ad.vt t.tr.length L rfl (HP.out.trace.later hb0) (x.kind, x.pl, x.slot, A', n, c') g2 rfl HB2.out.1 hlen ?_
    intro v3 w3 hown3 hg3 hloc3
    obtain ⟨A3, n3, c3, rfl⟩ := own_slice hown3
    have HC : Kp _ := ⟨note_parts HP.out hk HO.out.2 HO.out.1 hn (by rw [hgg]; exact HB2.out.2) hown3 hg3 hloc3⟩
    clear hown3 hg3 hloc3 HB2
    have c9 : w3.cell? ⟨b, 9, none⟩ = some ad.vt := by rw [HC.out.1.cell? 9]; rfl
    have f9 := HC.out.1.frozen 9
    refine hK _ _ ?_
    clear hK K
    try simp only [Act.put, List.setIfInBounds_toArray, List.set_cons_zero, List.set_cons_succ]
    refine wpAny_take (i := 12) (oi := ⟨some 22, _, _, _, _, _⟩) (v := ?_) rfl (by kernel_rfl) (by kernel_rfl) (by kernel_rfl) (fun _ _ _ h => h) (Or.inl ⟨by rfl, by intro w; go_simp; try rfl⟩) ?_
    try simp only [Act.put, List.setIfInBounds_toArray, List.set_cons_zero, List.set_cons_succ]
    refine wpAny_take (i := 13) (oi := ⟨some 23, _, _, _, _, _⟩) (v := ?_) rfl (by kernel_rfl) (by kernel_rfl) (by kernel_rfl) (fun _ _ _ h => h) (Or.inl ⟨by rfl, by intro w; go_simp; try rfl⟩) ?_
    try simp only [Act.put, List.setIfInBounds_toArray, List.set_cons_zero, List.set_cons_succ]
    refine wpAny_ready (rs := [14]) (by kernel_rfl) (by simp) ?_
    refine AllReady.cons (o := ⟨none, _, _, _, _, _⟩) rfl (fun K hK => ?_) AllReady.nil
    go_simp
    refine hK _ _ ?_
    clear hK K c9 f9
    try simp only [Act.put]
    refine wpAny_done (by kernel_rfl) ?_ _
    go_wp2
    go_end0
    exact ⟨rfl, _, _, _, HC.out.2.1, HN.out.trans HC.out.2.2⟩
  · go_simp
    refine (traced_any x hk A n c wS HA.out hn).mono ?_
    rintro e w66 ⟨A', c', rfl, ho', hb0'⟩
    replace hb0 := hb0'
    have HO : Kp _ := ⟨And.intro ho' hb0'⟩
    clear ho' hb0'
    simp only [hd4]
    refine hK _ _ ?_
    clear hK K
    try simp only [Act.put, List.setIfInBounds_toArray, List.set_cons_zero, List.set_cons_succ]
    refine wpAny_ready (rs := [4, 10]) (by kernel_rfl) (by simp) ?_
    refine AllReady.cons (o := ⟨some 14, _, _, _, _, _⟩) rfl (fun K hK => ?_) (AllReady.cons (o := ⟨some 20, _, _, _, _, _⟩) rfl (fun K hK => ?_) AllReady.nil)
    · have c9 := HX.out w66 hb0
      go_simp
      refine hK _ _ ?_
      clear hK K c9
      try simp only [Act.put, List.setIfInBounds_toArray, List.set_cons_zero, List.set_cons_succ]
      refine wpAny_ready (rs := [10]) (by kernel_rfl) (by simp) ?_
      refine AllReady.cons (o := ⟨some 20, _, _, _, _, _⟩) rfl (fun K hK => ?_) AllReady.nil
      have HB2 : Kp _ := ⟨And.intro (Blk.new w66 61 (hd4 (x.kind, x.pl, x.slot, A', n, c'))) ((Below.refl w66.heap.size w66).alloc (Nat.le_refl _) (.cells (hd4 (x.kind, x.pl, x.slot, A', n, c')).toArray 61))⟩
      have hgs : w66.heap.size = w66.heap.size := rfl
      generalize hgg : w66.heap.size = g2 at HB2 ⊢
      simp only [hd4] at HB2
      go_simp
      try rw [hgg]
      refine hK _ _ ?_
      clear hK K
      try simp only [Act.put, List.setIfInBounds_toArray, List.set_cons_zero, List.set_cons_succ]
      replace hb0 := hb0.trans (HB2.out.2.mono (by rw [← hgg]; exact hb0.size))
      generalize w66.alloc (.cells #[.int .i64 x.kind, .int .i64 x.pl, .int .i64 x.slot, .slice A' n c'] 61) = w68 at *
      refine wpAny_ready (rs := [11]) (by kernel_rfl) (by simp) ?_
      refine AllReady.cons (o := ⟨some 21, _, _, _, _, _⟩) rfl (fun K hK => ?_) AllReady.nil
      refine step_appT rfl (.tmp 14) (.tmp 20) rfl ad.vt t.tr.length L rfl (HP.out.trace.later hb0) (x.kind, x.pl, x.slot, A', n, c') g2 rfl HB2.out.1 hlen ?_
      intro v3 w3 hown3 hg3 hloc3
      obtain ⟨A3, n3, c3, rfl⟩ := own_slice hown3
      have HC : Kp _ := ⟨note_parts HP.out hk HO.out.2 HO.out.1 hn (by rw [hgg]; exact HB2.out.2) hown3 hg3 hloc3⟩
      clear hown3 hg3 hloc3 HB2
      have c9 : w3.cell? ⟨b, 9, none⟩ = some ad.vt := by rw [HC.out.1.cell? 9]; rfl
      have f9 := HC.out.1.frozen 9
      refine hK _ _ ?_
      clear hK K
      try simp only [Act.put, List.setIfInBounds_toArray, List.set_cons_zero, List.set_cons_succ]
      refine wpAny_take (i := 12) (oi := ⟨some 22, _, _, _, _, _⟩) (v := ?_) rfl (by kernel_rfl) (by kernel_rfl) (by kernel_rfl) (fun _ _ _ h => h) (Or.inl ⟨by rfl, by intro w; go_simp; try rfl⟩) ?_
      try simp only [Act.put, List.setIfInBounds_toArray, List.set_cons_zero, List.set_cons_succ]
      refine wpAny_take (i := 13) (oi := ⟨some 23, _, _, _, _, _⟩) (v := ?_) rfl (by kernel_rfl) (by kernel_rfl) (by kernel_rfl) (fun _ _ _ h => h) (Or.inl ⟨by rfl, by intro w; go_simp; try rfl⟩) ?_
      try simp only [Act.put, List.setIfInBounds_toArray, List.set_cons_zero, List.set_cons_succ]
      refine wpAny_ready (rs := [14]) (by kernel_rfl) (by simp) ?_
      refine AllReady.cons (o := ⟨none, _, _, _, _, _⟩) rfl (fun K hK => ?_) AllReady.nil
      go_simp
      refine hK _ _ ?_
      clear hK K c9 f9
      try simp only [Act.put]
      refine wpAny_done (by kernel_rfl) ?_ _
      go_wp2
      go_end0
      exact ⟨rfl, _, _, _, HC.out.2.1, HN.out.trans HC.out.2.2⟩
    · have HB2 : Kp _ := ⟨And.intro (Blk.new w66 61 (hd4 (x.kind, x.pl, x.slot, A', n, c'))) ((Below.refl w66.heap.size w66).alloc (Nat.le_refl _) (.cells (hd4 (x.kind, x.pl, x.slot, A', n, c')).toArray 61))⟩
      have hgs : w66.heap.size = w66.heap.size := rfl
      generalize hgg : w66.heap.size = g2 at HB2 ⊢
      simp only [hd4] at HB2
      go_simp
      try rw [hgg]
      refine hK _ _ ?_
      clear hK K
      try simp only [Act.put, List.setIfInBounds_toArray, List.set_cons_zero, List.set_cons_succ]
      replace hb0 := hb0.trans (HB2.out.2.mono (by rw [← hgg]; exact hb0.size))
      generalize w66.alloc (.cells #[.int .i64 x.kind, .int .i64 x.pl, .int .i64 x.slot, .slice A' n c'] 61) = w71 at *
      refine wpAny_ready (rs := [4]) (by kernel_rfl) (by simp) ?_
      refine AllReady.cons (o := ⟨some 14, _, _, _, _, _⟩) rfl (fun K hK => ?_) AllReady.nil
      have c9 := HX.out w71 hb0
      go_simp
      refine hK _ _ ?_
      clear hK K c9
      try simp only [Act.put, List.setIfInBounds_toArray, List.set_cons_zero, List.set_cons_succ]
      refine wpAny_ready (rs := [11]) (by kernel_rfl) (by simp) ?_
      refine AllReady.cons (o := ⟨some 21, _, _, _, _, _⟩) rfl (fun K hK => ?_) AllReady.nil
      refine step_appT rfl (.tmp 14) (.tmp 20) rfl ad.vt t.tr.length L rfl (HP.out.trace.later hb0) (x.kind, x.pl, x.slot, A', n, c') g2 rfl HB2.out.1 hlen ?_
      intro v3 w3 hown3 hg3 hloc3
      obtain ⟨A3, n3, c3, rfl⟩ := own_slice hown3
      have HC : Kp _ := ⟨note_parts HP.out hk HO.out.2 HO.out.1 hn (by rw [hgg]; exact HB2.out.2) hown3 hg3 hloc3⟩
      clear hown3 hg3 hloc3 HB2
      have c9 : w3.cell? ⟨b, 9, none⟩ = some ad.vt := by rw [HC.out.1.cell? 9]; rfl
      have f9 := HC.out.1.frozen 9
      refine hK _ _ ?_
      clear hK K
      try simp only [Act.put, List.setIfInBounds_toArray, List.set_cons_zero, List.set_cons_succ]
      refine wpAny_take (i := 12) (oi := ⟨some 22, _, _, _, _, _⟩) (v := ?_) rfl (by kernel_rfl) (by kernel_rfl) (by kernel_rfl) (fun _ _ _ h => h) (Or.inl ⟨by rfl, by intro w; go_simp; try rfl⟩) ?_
      try simp only [Act.put, List.setIfInBounds_toArray, List.set_cons_zero, List.set_cons_succ]
      refine wpAny_take (i := 13) (oi := ⟨some 23, _, _, _, _, _⟩) (v := ?_) rfl (by kernel_rfl) (by kernel_rfl) (by kernel_rfl) (fun _ _ _ h => h) (Or.inl ⟨by rfl, by intro w; go_simp; try rfl⟩) ?_
      try simp only [Act.put, List.setIfInBounds_toArray, List.set_cons_zero, List.set_cons_succ]
      refine wpAny_ready (rs := [14]) (by kernel_rfl) (by simp) ?_
      refine AllReady.cons (o := ⟨none, _, _, _, _, _⟩) rfl (fun K hK => ?_) AllReady.nil
      go_simp
      refine hK _ _ ?_
      clear hK K c9 f9
      try simp only [Act.put]
      refine wpAny_done (by kernel_rfl) ?_ _
      go_wp2
      go_end0
      exact ⟨rfl, _, _, _, HC.out.2.1, HN.out.trans HC.out.2.2⟩
end Go.Proofs.Ytpbpegoobgfjcaa

namespace Go.Proofs.Ytpbpegoobgfjcaa
open Go.RowKit

set_option maxHeartbeats 400000 in
theorem add_any (b : Nat) (ad : Ad) (t : Wd) (w : World) (hb : Blk w b 75 (wdCells ad t)) (hr : t.reads ≤ 1000000) :
    Calls Try.prog 52 #[.pointer (some ⟨b, 7, none⟩), .int .i64 1] w fun e w' => e = .returned (.int .i64 ((t.reads : Int) + 1)) ∧ w' = w.setCell ⟨b, 7, none⟩ (.int .i64 ((t.reads : Int) + 1)) := by
  have c7 : w.cell? ⟨b, 7, none⟩ = some (.int .i64 (t.reads : Int)) := by rw [hb.cell? 7]; rfl
  have hadd := run_call_add (P := Try.prog) Try.func62 (by kernel_rfl) (by kernel_rfl) (by kernel_rfl) .i64 (by kernel_rfl) (y := 1) (s := (t.reads : Int) + 1) c7 (hb.frozen 7) (by simp [go_sem, IntKind.wrap_i64]; omega)
  clear hb
  go_enter Try.func52, Try.ntmps52
  go_wp2
  go_ret
  exact ⟨rfl, rfl⟩
set_option maxHeartbeats 400000 in
theorem load_any (b : Nat) (ad : Ad) (t : Wd) (w : World) (hb : Blk w b 75 (wdCells ad t)) :
    Calls Try.prog 38 #[.pointer (some ⟨b, 7, none⟩)] w fun e w' => e = .returned (.int .i64 (t.reads : Int)) ∧ w' = w := by
  have c7 : w.cell? ⟨b, 7, none⟩ = some (.int .i64 (t.reads : Int)) := by rw [hb.cell? 7]; rfl
  have hload := run_call_load (P := Try.prog) Try.func53 (by kernel_rfl) (by kernel_rfl) (by kernel_rfl) .i64 (by kernel_rfl) c7
  clear hb
  go_enter Try.func38, Try.ntmps38
  go_wp2
  go_ret
  exact ⟨rfl, rfl⟩

def toldL (t : Wd) (l : List UInt8) : List UInt8 := (t.lies t.reads).getD l
def tellW (t : Wd) (kd pl sl : Int) (l : List UInt8) : Wd := { t with reads := t.reads + 1, lies := fun z => if z = (t.reads : Int) then none else t.lies z, tr := t.tr ++ [⟨kd, pl, sl, toldL t l⟩] }

theorem Parts.reflies {O M : Nat → Prop} {b : Nat} {ad : Ad} {t : Wd} {p : Int × Int → Option Nat} {L : List Hd4} {w : World} (h : Parts w O M b ad t p L) (lies' : Int → Option (List UInt8)) (he : ∀ z, okI z → lies' z = t.lies z) : Parts w O M b ad { t with lies := lies' } p L :=
  ⟨h.sub, h.lt, h.ob, h.blk, h.slots, h.lies.congr he, h.seal0, h.seal1, h.trace, h.big, h.pow, h.num, h.read, h.two⟩
theorem Nx.below {O O' : Nat → Prop} {w w' w2 : World} (h : Nx w O w' O') (hb : Below w'.heap.size w' w2) : Nx w O w2 O' :=
  ⟨h.chg.thenBelow hb, h.sub, h.new, fun k hk => Nat.lt_of_lt_of_le (h.lt k hk) hb.size⟩
theorem Nx.only {O : Nat → Prop} {w w' : World} {g : Nat} (ho : Only g w w') (hg : O g) (h : ∀ k, O k → k < w.heap.size) : Nx w O w' O := Nx.same (Chg.of_only ho hg) h
theorem or2_or2 {M O O2 : Nat → Prop} (h : ∀ k, O k → O2 k) : ∀ k, Or2 (Or2 M O) O2 k ↔ Or2 M O2 k := fun k => by
  unfold Or2
  exact ⟨fun x => x.elim (fun y => y.elim .inl (fun z => .inr (h k z))) .inr, fun x => x.elim (fun y => .inl (.inl y)) .inr⟩

set_option maxRecDepth 100000 in
set_option maxHeartbeats 1000000 in
theorem tell_any {O M : Nat → Prop} {b : Nat} {ad : Ad} {t : Wd} {p : Int × Int → Option Nat} {L : List Hd4} {w : World} (h : Parts w O M b ad t p L) (kd pl sl : Int) (hk : ∀ bs, TrOk ⟨kd, pl, sl, bs⟩) (A : Option Addr) (n c : Nat) (l : List UInt8)
    (hkeep : ∀ w' O' M' ad' t' L', Parts w' O' M' b ad' t' p L' → t'.sl = t.sl → Nx w O w' O' → Bs w' w'.heap.size A n c l) (hn : n ≤ 4294967296) (hlen : t.tr.length ≤ 1000000) (hr : t.reads ≤ 1000000) :
    Calls Try.prog 37 #[.pointer (some ⟨b, 0, none⟩), .int .i64 kd, .int .i64 pl, .int .i64 sl, .slice A n c] w fun e w' => ∃ A' n' c' ad' L' O', e = .returned (.slice A' n' c') ∧ Parts w' O' (Or2 M O') b ad' (tellW t kd pl sl l) p L' ∧ Nx w O w' O' ∧ BsM w' (Or2 M O') A' n' c' (toldL t l) := by
  have HP : Kp _ := ⟨h⟩
  have HK : Kp _ := ⟨hk⟩
  have HE : Kp _ := ⟨hkeep⟩
  have HZ : Kp (okI (t.reads : Int)) := ⟨by unfold okI; exact WalkArith.wf_i64 (by omega)⟩
  have HLen : Kp _ := ⟨hlen⟩
  clear h hk hkeep hlen
  go_enter Try.func37, Try.ntmps37
  go_wp2_with fail
  refine (add_any b ad t w HP.out.blk hr).mono ?_
  rintro e w1 ⟨rfl, rfl⟩
  have HO1 := Only.setCell w ⟨b, 7, none⟩ (.int .i64 ((t.reads : Int) + 1))
  have P1 : Parts (w.setCell ⟨b, 7, none⟩ (.int .i64 ((t.reads : Int) + 1))) O M b ad { t with reads := t.reads + 1 } p L :=
    HP.out.own HO1 (HP.out.blk.set 7 _) rfl rfl rfl rfl rfl rfl rfl HP.out.pow HP.out.num (by simp; omega)
  have N1 : Nx w O (w.setCell ⟨b, 7, none⟩ (.int .i64 ((t.reads : Int) + 1))) O := Nx.only HO1 HP.out.ob (fun k hk => HP.out.lt k (HP.out.sub k hk))
  generalize w.setCell ⟨b, 7, none⟩ (.int .i64 ((t.reads : Int) + 1)) = w1 at *
  have HP1 : Kp _ := ⟨P1⟩
  have HN1 : Kp _ := ⟨N1⟩
  have c8 : w1.cell? ⟨b, 8, none⟩ = some (.map ad.ml) := by rw [P1.blk.cell? 8]; rfl
  have hsub : wrap64 ((t.reads : Int) + 1 - 1) = (t.reads : Int) := by unfold wrap64; omega
  have hsub2 : wrap64 (t.reads : Int) = (t.reads : Int) := by unfold wrap64; omega
  have hz : (zeroValue 22).run Try.prog w1 = .ok (.slice none 0 0) w1 := by kernel_rfl
  have HZv : Kp _ := ⟨hz⟩
  clear HO1 N1 HP hz
  rcases P1.lies with ⟨hml, hno⟩ | ⟨g, m, f, hml, hOg, hI, hm, hf⟩
  · rw [hml] at c8
    have HNone : Kp (t.lies t.reads = none) := ⟨hno _ HZ.out⟩
    have P2 := P1.reflies (fun z => if z = (t.reads : Int) then none else t.lies z) (fun z hz => by
      by_cases e : z = (t.reads : Int)
      · rw [e]; simp [HNone.out]
      · simp [e])
    have HP2 : Kp _ := ⟨P2⟩
    clear P1 P2 hno hml
    go_wp2_with (with_reducible refine wpList_lookI_nil (o := ⟨some 27, _, _, _, _, _⟩) keyI rfl (.tmp 25) (.tmp 26) rfl Try.underlying73 HZv.out rfl (t.reads : Int) HZ.out rfl ?_)
    go_wp2_with fail
    refine (note_any HP2.out ⟨kd, pl, sl, l⟩ (HK.out l) A n c (HE.out _ _ _ _ _ _ HP2.out rfl HN1.out) hn HLen.out).mono ?_
    rintro e w3 ⟨rfl, ad3, L3, O3, P3, N3⟩
    have HP3 : Kp _ := ⟨P3⟩
    have HN3 : Kp _ := ⟨HN1.out.trans N3⟩
    clear P3 N3
    go_wp2_with fail
    refine (clone_any A n c l w3 (HE.out _ _ _ _ _ _ HP3.out rfl HN3.out) hn).mono ?_
    rintro e w4 ⟨v, rfl, ho4, hb4⟩
    obtain ⟨A4, c4, rfl, hbs4⟩ := BsM.of_own (M := Or2 M O3) ho4 HP3.out.lt hn
    have HB4 : Kp _ := ⟨And.intro hb4 hbs4⟩
    clear ho4 hb4 hbs4
    go_wp2
    go_ret
    have e1 : toldL t l = l := by unfold toldL; rw [HNone.out]; rfl
    refine ⟨A4, n, c4, ad3, L3, O3, rfl, ?_, HN3.out.below HB4.out.1, by rw [e1]; exact HB4.out.2⟩
    unfold tellW
    rw [e1]
    exact HP3.out.below HB4.out.1
  · rw [hml] at c8
    have HI : Kp _ := ⟨hI⟩
    have hfz := hf _ HZ.out
    cases hfr : f (t.reads : Int) with
    | none =>
      rw [hfr] at hfz
      have hno : t.lies t.reads = none := by
        cases hl : t.lies (t.reads : Int) with
        | none => rfl
        | some _ => simp only [hl, LieAt] at hfz
      have HNone : Kp (t.lies t.reads = none) := ⟨hno⟩
      have P2 := P1.reflies (fun z => if z = (t.reads : Int) then none else t.lies z) (fun z hz => by
        by_cases e : z = (t.reads : Int)
        · rw [e]; simp [HNone.out]
        · simp [e])
      have HP2 : Kp _ := ⟨P2⟩
      clear P1 P2 hno hml hI hm hf hfz
      go_wp2_with (with_reducible refine wpList_lookI_ok (o := ⟨some 27, _, _, _, _, _⟩) HI.out keyI rfl (.tmp 25) (.tmp 26) rfl Try.underlying73 HZv.out rfl (t.reads : Int) HZ.out rfl ?_)
      refine (note_any HP2.out ⟨kd, pl, sl, l⟩ (HK.out l) A n c (HE.out _ _ _ _ _ _ HP2.out rfl HN1.out) hn HLen.out).mono ?_
      rintro e w3 ⟨rfl, ad3, L3, O3, P3, N3⟩
      have HP3 : Kp _ := ⟨P3⟩
      have HN3 : Kp _ := ⟨HN1.out.trans N3⟩
      clear P3 N3
      go_wp2_with fail
      refine (clone_any A n c l w3 (HE.out _ _ _ _ _ _ HP3.out rfl HN3.out) hn).mono ?_
      rintro e w4 ⟨v, rfl, ho4, hb4⟩
      obtain ⟨A4, c4, rfl, hbs4⟩ := BsM.of_own (M := Or2 M O3) ho4 HP3.out.lt hn
      have HB4 : Kp _ := ⟨And.intro hb4 hbs4⟩
      clear ho4 hb4 hbs4
      go_wp2
      go_ret
      have e1 : toldL t l = l := by unfold toldL; rw [HNone.out]; rfl
      refine ⟨A4, n, c4, ad3, L3, O3, rfl, ?_, HN3.out.below HB4.out.1, by rw [e1]; exact HB4.out.2⟩
      unfold tellW
      rw [e1]
      exact HP3.out.below HB4.out.1
    | some v =>
      rw [hfr] at hfz
      obtain ⟨lb, hlb⟩ : ∃ lb, t.lies t.reads = some lb := by
        cases hl : t.lies (t.reads : Int) with
        | none => simp only [hl, LieAt] at hfz
        | some lb => exact ⟨lb, rfl⟩
      rw [hlb] at hfz
      obtain ⟨Av, nv, cv, rfl, hbv⟩ := hfz
      have HLb : Kp (t.lies t.reads = some lb) := ⟨hlb⟩
      have HBv : Kp _ := ⟨hbv⟩
      have HF : Kp (ad.ml = some g ∧ m ≤ t.nl ∧ O g ∧ ∀ z, okI z → LieAt w1 M (f z) (t.lies z)) := ⟨hml, hm, hOg, hf⟩
      clear P1 hml hI hm hf hlb hbv hOg
      go_wp2_with (first | (with_reducible refine wpList_lookI_ok (o := ⟨some 27, _, _, _, _, _⟩) HI.out keyI rfl (.tmp 25) (.tmp 26) rfl Try.underlying73 HZv.out rfl (t.reads : Int) HZ.out rfl ?_) | (with_reducible refine wpList_dropI (o := ⟨none, _, _, _, _, _⟩) HI.out keyI rfl (.tmp 35) (.tmp 36) rfl Try.underlying73 rfl (t.reads : Int) HZ.out rfl ?_))
      intro w2 hI2 ho2
      have P2 := HP1.out.lied (lies := fun z => if z = (t.reads : Int) then none else t.lies z) (nl := t.nl) HF.out.1 ho2 hI2 (by have := HF.out.2.1; omega) (fun z hz => by
        by_cases e : z = (t.reads : Int)
        · simp [e, LieAt]
        · simpa [e] using HF.out.2.2.2 z hz)
      have C2 : Chg O w1 w2 := Chg.of_only ho2 HF.out.2.2.1
      have HP2 : Kp _ := ⟨P2⟩
      have HN2 : Kp _ := ⟨HN1.out.trans (Nx.only ho2 HF.out.2.2.1 (fun k hk => HP1.out.lt k (HP1.out.sub k hk)))⟩
      have HB2 : Kp _ := ⟨HBv.out.chg (M' := M) C2 HP1.out.sub (fun _ h => .inl h)⟩
      have hnv := HBv.out.fit
      clear P2 hI2 ho2 hfr C2 c8
      go_wp2_with fail
      refine (note_any HP2.out ⟨kd, pl, sl, lb⟩ (HK.out lb) Av nv cv HB2.out.bs hnv HLen.out).mono ?_
      rintro e w3 ⟨rfl, ad3, L3, O3, P3, N3⟩
      have HP3 : Kp _ := ⟨P3⟩
      have HB3 : Kp _ := ⟨HB2.out.nx HP2.out.sub N3⟩
      have HN3 : Kp _ := ⟨HN2.out.trans N3⟩
      clear P3 N3
      go_wp2_with fail
      refine (clone_any Av nv cv lb w3 HB3.out.bs hnv).mono ?_
      rintro e w4 ⟨v, rfl, ho4, hb4⟩
      obtain ⟨A4, c4, rfl, hbs4⟩ := BsM.of_own (M := Or2 M O3) ho4 HP3.out.lt hnv
      have HB4 : Kp _ := ⟨And.intro hb4 hbs4⟩
      clear ho4 hb4 hbs4
      go_wp2
      go_ret
      have e1 : toldL t l = lb := by unfold toldL; rw [HLb.out]; rfl
      refine ⟨A4, nv, c4, ad3, L3, O3, rfl, ?_, HN3.out.below HB4.out.1, by rw [e1]; exact HB4.out.2⟩
      unfold tellW
      rw [e1]
      exact HP3.out.below HB4.out.1
end Go.Proofs.Ytpbpegoobgfjcaa

namespace Go.Proofs.Ytpbpegoobgfjcaa
open Go.RowKit

def takeOk (t : Wd) : Bool := !t.lim || decide (0 < t.left)
def takeW (t : Wd) : Wd := if t.lim = true then (if t.left = 0 then { t with lost := true } else { t with left := t.left - 1 }) else t

set_option maxHeartbeats 400000 in
theorem take_any (b : Nat) (ad : Ad) (t : Wd) (w : World) (hb : Blk w b 75 (wdCells ad t)) (hp : t.left ≤ 1000000) :
    Calls Try.prog 42 #[.pointer (some ⟨b, 4, none⟩)] w fun e w' => e = .returned (.bool (takeOk t)) ∧ Blk w' b 75 (wdCells ad (takeW t)) ∧ Only b w w' := by
  have c4 : w.cell? ⟨b, 4, none⟩ = some (.bool t.lim) := by rw [hb.cell? 4]; rfl
  have c5 : w.cell? ⟨b, 5, none⟩ = some (.bool t.lost) := by rw [hb.cell? 5]; rfl
  have c6 : w.cell? ⟨b, 6, none⟩ = some (.int .i64 (t.left : Int)) := by rw [hb.cell? 6]; rfl
  have f5 := hb.frozen 5
  have f6 := hb.frozen 6
  have HB : Kp _ := ⟨hb⟩
  have HP : Kp _ := ⟨hp⟩
  clear hb hp
  by_cases hl : t.lim = true
  · rw [hl] at c4
    by_cases h0 : t.left = 0
    · have hi : ((t.left : Int) == 0) = true := by rw [beq_iff_eq]; omega
      have HL : Kp _ := ⟨hl⟩
      have H0 : Kp _ := ⟨h0⟩
      clear hl h0
      go_enter Try.func42, Try.ntmps42
      go_wp2
      go_ret
      have e : takeW t = { t with lost := true } := by unfold takeW; rw [if_pos HL.out, if_pos H0.out]
      refine ⟨by unfold takeOk; rw [HL.out, H0.out]; rfl, ?_, Only.setCell w ⟨b, 5, none⟩ _⟩
      rw [e]
      exact HB.out.set 5 (.bool true)
    · have hi : ((t.left : Int) == 0) = false := by rw [beq_eq_false_iff_ne]; omega
      obtain ⟨m, hm⟩ : ∃ m, t.left = m + 1 := ⟨t.left - 1, by omega⟩
      have hw2 : wrap64 ((t.left : Int) - 1) = (m : Int) := by rw [show (t.left : Int) - 1 = (m : Int) by omega]; have := HP.out; unfold wrap64; omega
      have HL : Kp _ := ⟨hl⟩
      have H0 : Kp _ := ⟨hm⟩
      clear hl h0 hm
      go_enter Try.func42, Try.ntmps42
      go_wp2
      go_ret
      have e : takeW t = { t with left := m } := by unfold takeW; rw [if_pos HL.out, if_neg (by have := H0.out; omega), H0.out]; rfl
      refine ⟨by unfold takeOk; rw [HL.out, H0.out]; rfl, ?_, Only.setCell w ⟨b, 6, none⟩ _⟩
      rw [e]
      exact HB.out.set 6 (.int .i64 (m : Int))
  · have hl' : t.lim = false := by simpa using hl
    rw [hl'] at c4
    have HL : Kp _ := ⟨hl'⟩
    clear hl hl'
    go_enter Try.func42, Try.ntmps42
    go_wp2
    go_ret
    have e : takeW t = t := by unfold takeW; rw [if_neg (by rw [HL.out]; decide)]
    rw [e]
    exact ⟨by unfold takeOk; rw [HL.out]; rfl, HB.out, Only.refl _ _⟩
end Go.Proofs.Ytpbpegoobgfjcaa

namespace Go.Proofs.Ytpbpegoobgfjcaa
open Go.RowKit

set_option maxHeartbeats 400000 in
theorem runs_any (b : Nat) (ad : Ad) (t : Wd) (w : World) (hb : Blk w b 75 (wdCells ad t)) :
    Calls Try.prog 40 #[.pointer (some ⟨b, 0, none⟩)] w fun e w' => e = .returned (.bool (!t.lost)) ∧ w' = w := by
  have c5 : w.cell? ⟨b, 5, none⟩ = some (.bool t.lost) := by rw [hb.cell? 5]; rfl
  clear hb
  go_enter Try.func40, Try.ntmps40
  go_wp2
  go_ret
  exact ⟨rfl, rfl⟩
set_option maxHeartbeats 400000 in
theorem dead_any (b : Nat) (ad : Ad) (t : Wd) (w : World) (hb : Blk w b 75 (wdCells ad t)) :
    Calls Try.prog 17 #[.pointer (some ⟨b, 0, none⟩)] w fun e w' => e = .returned (.bool t.lost) ∧ w' = w := by
  have c5 : w.cell? ⟨b, 5, none⟩ = some (.bool t.lost) := by rw [hb.cell? 5]; rfl
  clear hb
  go_enter Try.func17, Try.ntmps17
  go_wp2
  go_ret
  exact ⟨rfl, rfl⟩
def slotV (t : Wd) (p : Int × Int → Option Nat) (x : Int × Int) : Value := if t.lost = true then .pointer none else ((p x).map ptr).getD (.pointer none)
set_option maxHeartbeats 400000 in
theorem slot_any {O M : Nat → Prop} {b : Nat} {ad : Ad} {t : Wd} {p : Int × Int → Option Nat} {L : List Hd4} {w : World} (h : Parts w O M b ad t p L) (x y : Int) (hx : okP (x, y)) :
    Calls Try.prog 33 #[.pointer (some ⟨b, 0, none⟩), .int .i64 x, .int .i64 y] w fun e w' => e = .returned (slotV t p (x, y)) ∧ w' = w := by
  have c0 : w.cell? ⟨b, 0, none⟩ = some (.map (some ad.ms)) := by rw [h.blk.cell? 0]; rfl
  have HB : Kp _ := ⟨h.blk⟩
  have HM : Kp _ := ⟨h.slots.map⟩
  have HX : Kp _ := ⟨hx⟩
  clear h hx
  by_cases hl : t.lost = true
  · go_enter Try.func33, Try.ntmps33
    go_wp2_with fail
    refine (runs_any b ad t w HB.out).mono ?_
    rintro e w1 ⟨rfl, rfl⟩
    go_wp2
    go_ret
    exact ⟨by unfold slotV; rw [if_pos hl]; rfl, rfl⟩
  · have hl' : t.lost = false := by simpa using hl
    go_enter Try.func33, Try.ntmps33
    go_wp2_with fail
    refine (runs_any b ad t w HB.out).mono ?_
    rintro e w1 ⟨rfl, rfl⟩
    go_wp2_with (with_reducible refine wpList_lookI (o := ⟨some 17, _, _, _, _, _⟩) HM.out keyP rfl (.tmp 13) (.tmp 16) rfl Try.underlying64 (z := .pointer none) (by kernel_rfl) rfl (x, y) HX.out rfl ?_)
    go_ret
    exact ⟨by unfold slotV; rw [if_neg hl]; rfl, rfl⟩
set_option maxHeartbeats 400000 in
theorem hasSeal_any (b : Nat) (ad : Ad) (t : Wd) (w : World) (hb : Blk w b 75 (wdCells ad t)) (i : Int) :
    Calls Try.prog 51 #[.pointer (some ⟨b, 0, none⟩), .int .i64 i] w fun e w' => e = .returned (.bool (!t.lost && (decide (0 ≤ i) && decide (i < 2)))) ∧ w' = w := by
  have HB : Kp _ := ⟨hb⟩
  clear hb
  cases hl : t.lost
  · rcases (by omega : i < 0 ∨ (0 ≤ i ∧ i < 2) ∨ 2 ≤ i) with h | ⟨h, h2⟩ | h
    all_goals
      go_enter Try.func51, Try.ntmps51
      go_wp2_with fail
      refine (runs_any b ad t w HB.out).mono ?_
      rintro e w1 ⟨rfl, rfl⟩
      go_wp2
      go_ret
      refine ⟨?_, rfl⟩
      simp
      try omega
  · go_enter Try.func51, Try.ntmps51
    go_wp2_with fail
    refine (runs_any b ad t w HB.out).mono ?_
    rintro e w1 ⟨rfl, rfl⟩
    go_wp2
    go_ret
    exact ⟨rfl, rfl⟩
end Go.Proofs.Ytpbpegoobgfjcaa
