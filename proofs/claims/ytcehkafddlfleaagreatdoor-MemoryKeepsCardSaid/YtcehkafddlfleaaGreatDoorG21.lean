/- 
    -/
import Derived.Test.YtcehkafddlfleaaGreatDoorG18
import Derived.Test.YtcehkafddlfleaaGreatDoorG14
import Derived.Test.YtcehkafddlfleaaGreatDoorG02
import Derived.WalkMore
namespace Go.Proofs.YtcehkafddlfleaaGreatDoor
open Go.RowKit
def zeroTr : List Value := [.int .i64 0, .int .i64 0, .int .i64 0, .slice none 0 0]
theorem tyTr : Ty Tryz.prog 131 zeroTr := ⟨by kernel_rfl⟩
theorem rwTr : Rw Tryz.prog 131 (match (Tryz.prog).underlying 131 with | some d => d | none => .bool) 4 := ⟨by kernel_rfl, by kernel_rfl, by kernel_rfl⟩
theorem own_lower {w : World} {base base' : Nat} {e : TypeId} {size n : Nat} {v : Value} {xs : List Value} (h : w.ownsRow base e size v n xs) (hb : base' ≤ base) : w.ownsRow base' e size v n xs := by
 refine ⟨h.1, ?_⟩
 rcases h.2 with h1 | ⟨g, cap, cur, e1, h2, h3⟩
 ·exact .inl h1
 ·exact .inr ⟨g, cap, cur, e1, Nat.le_trans hb h2, h3⟩
set_option maxRecDepth 100000 in
set_option maxHeartbeats 1000000 in
theorem traced_any (t : Tr) (hk : TrOk t) (A : Option Addr) (n c : Nat) (w : World) (ha : Bs w w.heap.size A n c t.bytes) (hn : n ≤ 4294967296) :
  Calls Tryz.prog 55 #[.int .i64 t.kind, .int .i64 t.pl, .int .i64 t.slot, .slice A n c] w fun e w' => ∃ A' c', e = .returned (.agg (hd4 (t.kind, t.pl, t.slot, A', n, c')).toArray) ∧ w'.ownsRow w.heap.size 5 1 (.slice A' n c') n (cells8 t.bytes) ∧ Below w.heap.size w w' := by
 obtain ⟨kd, pl, sl, bs⟩ := t
 obtain ⟨hkd, _, _⟩ := hk
 simp only at hkd ha ⊢
 have HA : Kp _ := ⟨ha⟩
 have HL : Kp _ := ⟨ha.len⟩
 have HZ : Kp (zeroTr.length = 4) := ⟨rfl⟩
 clear ha
 rcases hkd with rfl | rfl | ⟨rfl, rfl⟩ | ⟨rfl, rfl⟩ | ⟨rfl, rfl, rfl, rfl⟩
 ·go_enter Tryz.func55, Tryz.ntmps55
  go_wp2_with (with_reducible refine wpList_alloc (o := ⟨some 8, _, _, _, _, _⟩) tyTr rfl rfl ?_)
  intro w1 hk1 hb1 hs1
  have HK1 : Kp _ := ⟨hk1⟩
  clear hk1 hs1
  go_wp2_with (with_reducible refine wpList_alloc (o := ⟨some 9, _, _, _, _, _⟩) tyTr rfl rfl ?_)
  intro w2 hk2 hb2 hs2
  have HK2 : Kp _ := ⟨hk2⟩
  have HF2 : Kp _ := ⟨HK1.out.below hb2 HK1.out.lt⟩
  have hlt : w.heap.size < w1.heap.size := HK1.out.lt
  have hB2 : Below w.heap.size w w2 := hb1.trans (hb2.mono hb1.size)
  obtain ⟨g2, hg2⟩ : ∃ g, g = w1.heap.size := ⟨_, rfl⟩
  rw [← hg2] at HK2 hlt ⊢
  have hne : w.heap.size ≠ g2 := by omega
  have HLt : Kp (g2 < w2.heap.size) := ⟨HK2.out.lt⟩
  clear hs2 hk2 HK1 hb2 hb1 hg2
  have c0 : w2.cell? ⟨g2, 0, none⟩ = some (.int .i64 0) := HK2.out.cell? 0
  have f0 := HK2.out.frozen 0
  have c1 : w2.cell? ⟨g2, 1, none⟩ = some (.int .i64 0) := HK2.out.cell? 1
  have f1 := HK2.out.frozen 1
  have c2 : w2.cell? ⟨g2, 2, none⟩ = some (.int .i64 0) := HK2.out.cell? 2
  have f2 := HK2.out.frozen 2
  have c3 : w2.cell? ⟨g2, 3, none⟩ = some (.slice none 0 0) := HK2.out.cell? 3
  have f3 := HK2.out.frozen 3
  go_wp2_with fail
  have HK3 : Kp _ := ⟨HK2.out.set 2 (.int .i64 sl)⟩
  have HF3 : Kp _ := ⟨HF2.out.other (p := ⟨g2, 2, none⟩) hne (.int .i64 sl)⟩
  have hB3 : Below w.heap.size w (w2.setCell ⟨g2, 2, none⟩ (.int .i64 sl)) := hB2.setCell (by simp; omega) _
  have HLt3 : Kp (g2 < (w2.setCell ⟨g2, 2, none⟩ (.int .i64 sl)).heap.size) := ⟨by have := HLt.out; simpa using this⟩
  clear c0 c1 c2 c3 f0 f1 f2 f3 HK2 HF2 hB2
  generalize w2.setCell ⟨g2, 2, none⟩ (.int .i64 sl) = w3 at *
  refine (clone_any A n c bs _ ((HA.out.below hB3).more hB3.size) hn).mono ?_
  rintro e w4 ⟨v, rfl, ho4, hb4⟩
  obtain ⟨A4, c4', rfl, hc4, hm4, _⟩ := own_form ho4
  have HO4 : Kp _ := ⟨ho4⟩
  have HK4 : Kp _ := ⟨HK3.out.below hb4 HK3.out.lt⟩
  have HF4 : Kp _ := ⟨HF3.out.below hb4 HF3.out.lt⟩
  have hB4 : Below w.heap.size w w4 := hB3.trans (hb4.mono hB3.size)
  clear ho4 HK3 HF3
  have c0 : w4.cell? ⟨g2, 0, none⟩ = some (.int .i64 0) := HK4.out.cell? 0
  have f0 := HK4.out.frozen 0
  have c1 : w4.cell? ⟨g2, 1, none⟩ = some (.int .i64 0) := HK4.out.cell? 1
  have f1 := HK4.out.frozen 1
  have c2 : w4.cell? ⟨g2, 2, none⟩ = some (.int .i64 sl) := HK4.out.cell? 2
  have f2 := HK4.out.frozen 2
  have c3 : w4.cell? ⟨g2, 3, none⟩ = some (.slice none 0 0) := HK4.out.cell? 3
  have f3 := HK4.out.frozen 3
  have HK5 : Kp (Blk (((w4.setCell ⟨g2, 1, none⟩ (.int .i64 pl)).setCell ⟨g2, 3, none⟩ (.slice A4 n c4')).setCell ⟨g2, 0, none⟩ (.int .i64 1)) g2 131 (hd4 (1, pl, sl, A4, n, c4'))) := ⟨((HK4.out.set 1 (.int .i64 pl)).set 3 (.slice A4 n c4')).set 0 (.int .i64 1)⟩
  have HF5 : Kp (Blk (((w4.setCell ⟨g2, 1, none⟩ (.int .i64 pl)).setCell ⟨g2, 3, none⟩ (.slice A4 n c4')).setCell ⟨g2, 0, none⟩ (.int .i64 1)) w.heap.size 131 zeroTr) := ⟨((HF4.out.other (p := ⟨g2, 1, none⟩) hne _).other (p := ⟨g2, 3, none⟩) hne _).other (p := ⟨g2, 0, none⟩) hne _⟩
  have hB5 : Below w.heap.size w (((w4.setCell ⟨g2, 1, none⟩ (.int .i64 pl)).setCell ⟨g2, 3, none⟩ (.slice A4 n c4')).setCell ⟨g2, 0, none⟩ (.int .i64 1)) := ((hB4.setCell (p := ⟨g2, 1, none⟩) (by simp; omega) _).setCell (p := ⟨g2, 3, none⟩) (by simp; omega) _).setCell (p := ⟨g2, 0, none⟩) (by simp; omega) _
  have HO5 : Kp ((((w4.setCell ⟨g2, 1, none⟩ (.int .i64 pl)).setCell ⟨g2, 3, none⟩ (.slice A4 n c4')).setCell ⟨g2, 0, none⟩ (.int .i64 1)).ownsRow w3.heap.size 5 1 (.slice A4 n c4') n (cells8 bs)) := ⟨own_grown (own_grown (own_grown HO4.out (grown_set _ g2 1 _) HLt3.out) (grown_set _ g2 3 _) HLt3.out) (grown_set _ g2 0 _) HLt3.out⟩
  have HV : Kp (([.int .i64 1, .int .i64 pl, .int .i64 sl, .slice A4 n c4'] : List Value).length = 4) := ⟨rfl⟩
  have HO : Kp (∀ u ∈ ([.int .i64 1, .int .i64 pl, .int .i64 sl, .slice A4 n c4'] : List Value), u.oneCell' = true) := ⟨hd4_one (1, pl, sl, A4, n, c4')⟩
  have h3 := hB3.size
  go_wp2_with (with_reducible refine wpList_storeAll (o := ⟨none, _, _, _, _, _⟩) (vs := [.int .i64 1, .int .i64 pl, .int .i64 sl, .slice A4 n c4']) rwTr rfl (.tmp 8) (.tmp 28) rfl rfl HF5.out HZ.out HV.out HO.out rfl ?_)
  intro w6 hk6 ho6
  go_wp2
  refine ret_arr rfl rwTr rfl hk6 HV.out rfl ?_
  exact ⟨A4, c4', rfl, own_lower (own_grown HO5.out (grown_only ho6) (by have := HLt3.out; omega)) h3, hB5.trans (ho6.below (Nat.le_refl _))⟩
 ·go_enter Tryz.func55, Tryz.ntmps55
  go_wp2_with (with_reducible refine wpList_alloc (o := ⟨some 8, _, _, _, _, _⟩) tyTr rfl rfl ?_)
  intro w1 hk1 hb1 hs1
  have HK1 : Kp _ := ⟨hk1⟩
  clear hk1 hs1
  go_wp2_with (with_reducible refine wpList_alloc (o := ⟨some 9, _, _, _, _, _⟩) tyTr rfl rfl ?_)
  intro w2 hk2 hb2 hs2
  have HK2 : Kp _ := ⟨hk2⟩
  have HF2 : Kp _ := ⟨HK1.out.below hb2 HK1.out.lt⟩
  have hlt : w.heap.size < w1.heap.size := HK1.out.lt
  have hB2 : Below w.heap.size w w2 := hb1.trans (hb2.mono hb1.size)
  obtain ⟨g2, hg2⟩ : ∃ g, g = w1.heap.size := ⟨_, rfl⟩
  rw [← hg2] at HK2 hlt ⊢
  have hne : w.heap.size ≠ g2 := by omega
  have HLt : Kp (g2 < w2.heap.size) := ⟨HK2.out.lt⟩
  clear hs2 hk2 HK1 hb2 hb1 hg2
  have c0 : w2.cell? ⟨g2, 0, none⟩ = some (.int .i64 0) := HK2.out.cell? 0
  have f0 := HK2.out.frozen 0
  have c1 : w2.cell? ⟨g2, 1, none⟩ = some (.int .i64 0) := HK2.out.cell? 1
  have f1 := HK2.out.frozen 1
  have c2 : w2.cell? ⟨g2, 2, none⟩ = some (.int .i64 0) := HK2.out.cell? 2
  have f2 := HK2.out.frozen 2
  have c3 : w2.cell? ⟨g2, 3, none⟩ = some (.slice none 0 0) := HK2.out.cell? 3
  have f3 := HK2.out.frozen 3
  go_wp2_with fail
  have HK3 : Kp _ := ⟨HK2.out.set 2 (.int .i64 sl)⟩
  have HF3 : Kp _ := ⟨HF2.out.other (p := ⟨g2, 2, none⟩) hne (.int .i64 sl)⟩
  have hB3 : Below w.heap.size w (w2.setCell ⟨g2, 2, none⟩ (.int .i64 sl)) := hB2.setCell (by simp; omega) _
  have HLt3 : Kp (g2 < (w2.setCell ⟨g2, 2, none⟩ (.int .i64 sl)).heap.size) := ⟨by have := HLt.out; simpa using this⟩
  clear c0 c1 c2 c3 f0 f1 f2 f3 HK2 HF2 hB2
  generalize w2.setCell ⟨g2, 2, none⟩ (.int .i64 sl) = w3 at *
  refine (clone_any A n c bs _ ((HA.out.below hB3).more hB3.size) hn).mono ?_
  rintro e w4 ⟨v, rfl, ho4, hb4⟩
  obtain ⟨A4, c4', rfl, hc4, hm4, _⟩ := own_form ho4
  have HO4 : Kp _ := ⟨ho4⟩
  have HK4 : Kp _ := ⟨HK3.out.below hb4 HK3.out.lt⟩
  have HF4 : Kp _ := ⟨HF3.out.below hb4 HF3.out.lt⟩
  have hB4 : Below w.heap.size w w4 := hB3.trans (hb4.mono hB3.size)
  clear ho4 HK3 HF3
  have c0 : w4.cell? ⟨g2, 0, none⟩ = some (.int .i64 0) := HK4.out.cell? 0
  have f0 := HK4.out.frozen 0
  have c1 : w4.cell? ⟨g2, 1, none⟩ = some (.int .i64 0) := HK4.out.cell? 1
  have f1 := HK4.out.frozen 1
  have c2 : w4.cell? ⟨g2, 2, none⟩ = some (.int .i64 sl) := HK4.out.cell? 2
  have f2 := HK4.out.frozen 2
  have c3 : w4.cell? ⟨g2, 3, none⟩ = some (.slice none 0 0) := HK4.out.cell? 3
  have f3 := HK4.out.frozen 3
  have HK5 : Kp (Blk (((w4.setCell ⟨g2, 1, none⟩ (.int .i64 pl)).setCell ⟨g2, 3, none⟩ (.slice A4 n c4')).setCell ⟨g2, 0, none⟩ (.int .i64 2)) g2 131 (hd4 (2, pl, sl, A4, n, c4'))) := ⟨((HK4.out.set 1 (.int .i64 pl)).set 3 (.slice A4 n c4')).set 0 (.int .i64 2)⟩
  have HF5 : Kp (Blk (((w4.setCell ⟨g2, 1, none⟩ (.int .i64 pl)).setCell ⟨g2, 3, none⟩ (.slice A4 n c4')).setCell ⟨g2, 0, none⟩ (.int .i64 2)) w.heap.size 131 zeroTr) := ⟨((HF4.out.other (p := ⟨g2, 1, none⟩) hne _).other (p := ⟨g2, 3, none⟩) hne _).other (p := ⟨g2, 0, none⟩) hne _⟩
  have hB5 : Below w.heap.size w (((w4.setCell ⟨g2, 1, none⟩ (.int .i64 pl)).setCell ⟨g2, 3, none⟩ (.slice A4 n c4')).setCell ⟨g2, 0, none⟩ (.int .i64 2)) := ((hB4.setCell (p := ⟨g2, 1, none⟩) (by simp; omega) _).setCell (p := ⟨g2, 3, none⟩) (by simp; omega) _).setCell (p := ⟨g2, 0, none⟩) (by simp; omega) _
  have HO5 : Kp ((((w4.setCell ⟨g2, 1, none⟩ (.int .i64 pl)).setCell ⟨g2, 3, none⟩ (.slice A4 n c4')).setCell ⟨g2, 0, none⟩ (.int .i64 2)).ownsRow w3.heap.size 5 1 (.slice A4 n c4') n (cells8 bs)) := ⟨own_grown (own_grown (own_grown HO4.out (grown_set _ g2 1 _) HLt3.out) (grown_set _ g2 3 _) HLt3.out) (grown_set _ g2 0 _) HLt3.out⟩
  have HV : Kp (([.int .i64 2, .int .i64 pl, .int .i64 sl, .slice A4 n c4'] : List Value).length = 4) := ⟨rfl⟩
  have HO : Kp (∀ u ∈ ([.int .i64 2, .int .i64 pl, .int .i64 sl, .slice A4 n c4'] : List Value), u.oneCell' = true) := ⟨hd4_one (2, pl, sl, A4, n, c4')⟩
  have h3 := hB3.size
  go_wp2_with (with_reducible refine wpList_storeAll (o := ⟨none, _, _, _, _, _⟩) (vs := [.int .i64 2, .int .i64 pl, .int .i64 sl, .slice A4 n c4']) rwTr rfl (.tmp 8) (.tmp 28) rfl rfl HF5.out HZ.out HV.out HO.out rfl ?_)
  intro w6 hk6 ho6
  go_wp2
  refine ret_arr rfl rwTr rfl hk6 HV.out rfl ?_
  exact ⟨A4, c4', rfl, own_lower (own_grown HO5.out (grown_only ho6) (by have := HLt3.out; omega)) h3, hB5.trans (ho6.below (Nat.le_refl _))⟩
 ·go_enter Tryz.func55, Tryz.ntmps55
  go_wp2_with (with_reducible refine wpList_alloc (o := ⟨some 8, _, _, _, _, _⟩) tyTr rfl rfl ?_)
  intro w1 hk1 hb1 hs1
  have HK1 : Kp _ := ⟨hk1⟩
  clear hk1 hs1
  go_wp2_with (with_reducible refine wpList_alloc (o := ⟨some 9, _, _, _, _, _⟩) tyTr rfl rfl ?_)
  intro w2 hk2 hb2 hs2
  have HK2 : Kp _ := ⟨hk2⟩
  have HF2 : Kp _ := ⟨HK1.out.below hb2 HK1.out.lt⟩
  have hlt : w.heap.size < w1.heap.size := HK1.out.lt
  have hB2 : Below w.heap.size w w2 := hb1.trans (hb2.mono hb1.size)
  obtain ⟨g2, hg2⟩ : ∃ g, g = w1.heap.size := ⟨_, rfl⟩
  rw [← hg2] at HK2 hlt ⊢
  have hne : w.heap.size ≠ g2 := by omega
  have HLt : Kp (g2 < w2.heap.size) := ⟨HK2.out.lt⟩
  clear hs2 hk2 HK1 hb2 hb1 hg2
  have c0 : w2.cell? ⟨g2, 0, none⟩ = some (.int .i64 0) := HK2.out.cell? 0
  have f0 := HK2.out.frozen 0
  have c1 : w2.cell? ⟨g2, 1, none⟩ = some (.int .i64 0) := HK2.out.cell? 1
  have f1 := HK2.out.frozen 1
  have c2 : w2.cell? ⟨g2, 2, none⟩ = some (.int .i64 0) := HK2.out.cell? 2
  have f2 := HK2.out.frozen 2
  have c3 : w2.cell? ⟨g2, 3, none⟩ = some (.slice none 0 0) := HK2.out.cell? 3
  have f3 := HK2.out.frozen 3
  go_wp2_with fail
  have HK3 : Kp _ := HK2
  have HF3 : Kp _ := HF2
  have hB3 := hB2
  have HLt3 : Kp _ := HLt
  clear c0 c1 c2 c3 f0 f1 f2 f3 HK2 HF2 hB2
  obtain ⟨w3, rfl⟩ : ∃ x, x = w2 := ⟨_, rfl⟩
  refine (clone_any A n c bs _ ((HA.out.below hB3).more hB3.size) hn).mono ?_
  rintro e w4 ⟨v, rfl, ho4, hb4⟩
  obtain ⟨A4, c4', rfl, hc4, hm4, _⟩ := own_form ho4
  have HO4 : Kp _ := ⟨ho4⟩
  have HK4 : Kp _ := ⟨HK3.out.below hb4 HK3.out.lt⟩
  have HF4 : Kp _ := ⟨HF3.out.below hb4 HF3.out.lt⟩
  have hB4 : Below w.heap.size w w4 := hB3.trans (hb4.mono hB3.size)
  clear ho4 HK3 HF3
  have c0 : w4.cell? ⟨g2, 0, none⟩ = some (.int .i64 0) := HK4.out.cell? 0
  have f0 := HK4.out.frozen 0
  have c1 : w4.cell? ⟨g2, 1, none⟩ = some (.int .i64 0) := HK4.out.cell? 1
  have f1 := HK4.out.frozen 1
  have c2 : w4.cell? ⟨g2, 2, none⟩ = some (.int .i64 0) := HK4.out.cell? 2
  have f2 := HK4.out.frozen 2
  have c3 : w4.cell? ⟨g2, 3, none⟩ = some (.slice none 0 0) := HK4.out.cell? 3
  have f3 := HK4.out.frozen 3
  have HK5 : Kp (Blk (((w4.setCell ⟨g2, 1, none⟩ (.int .i64 pl)).setCell ⟨g2, 3, none⟩ (.slice A4 n c4')).setCell ⟨g2, 0, none⟩ (.int .i64 3)) g2 131 (hd4 (3, pl, 0, A4, n, c4'))) := ⟨((HK4.out.set 1 (.int .i64 pl)).set 3 (.slice A4 n c4')).set 0 (.int .i64 3)⟩
  have HF5 : Kp (Blk (((w4.setCell ⟨g2, 1, none⟩ (.int .i64 pl)).setCell ⟨g2, 3, none⟩ (.slice A4 n c4')).setCell ⟨g2, 0, none⟩ (.int .i64 3)) w.heap.size 131 zeroTr) := ⟨((HF4.out.other (p := ⟨g2, 1, none⟩) hne _).other (p := ⟨g2, 3, none⟩) hne _).other (p := ⟨g2, 0, none⟩) hne _⟩
  have hB5 : Below w.heap.size w (((w4.setCell ⟨g2, 1, none⟩ (.int .i64 pl)).setCell ⟨g2, 3, none⟩ (.slice A4 n c4')).setCell ⟨g2, 0, none⟩ (.int .i64 3)) := ((hB4.setCell (p := ⟨g2, 1, none⟩) (by simp; omega) _).setCell (p := ⟨g2, 3, none⟩) (by simp; omega) _).setCell (p := ⟨g2, 0, none⟩) (by simp; omega) _
  have HO5 : Kp ((((w4.setCell ⟨g2, 1, none⟩ (.int .i64 pl)).setCell ⟨g2, 3, none⟩ (.slice A4 n c4')).setCell ⟨g2, 0, none⟩ (.int .i64 3)).ownsRow w3.heap.size 5 1 (.slice A4 n c4') n (cells8 bs)) := ⟨own_grown (own_grown (own_grown HO4.out (grown_set _ g2 1 _) HLt3.out) (grown_set _ g2 3 _) HLt3.out) (grown_set _ g2 0 _) HLt3.out⟩
  have HV : Kp (([.int .i64 3, .int .i64 pl, .int .i64 0, .slice A4 n c4'] : List Value).length = 4) := ⟨rfl⟩
  have HO : Kp (∀ u ∈ ([.int .i64 3, .int .i64 pl, .int .i64 0, .slice A4 n c4'] : List Value), u.oneCell' = true) := ⟨hd4_one (3, pl, 0, A4, n, c4')⟩
  have h3 := hB3.size
  go_wp2_with (with_reducible refine wpList_storeAll (o := ⟨none, _, _, _, _, _⟩) (vs := [.int .i64 3, .int .i64 pl, .int .i64 0, .slice A4 n c4']) rwTr rfl (.tmp 8) (.tmp 28) rfl rfl HF5.out HZ.out HV.out HO.out rfl ?_)
  intro w6 hk6 ho6
  go_wp2
  refine ret_arr rfl rwTr rfl hk6 HV.out rfl ?_
  exact ⟨A4, c4', rfl, own_lower (own_grown HO5.out (grown_only ho6) (by have := HLt3.out; omega)) h3, hB5.trans (ho6.below (Nat.le_refl _))⟩
 ·go_enter Tryz.func55, Tryz.ntmps55
  go_wp2_with (with_reducible refine wpList_alloc (o := ⟨some 8, _, _, _, _, _⟩) tyTr rfl rfl ?_)
  intro w1 hk1 hb1 hs1
  have HK1 : Kp _ := ⟨hk1⟩
  clear hk1 hs1
  go_wp2_with (with_reducible refine wpList_alloc (o := ⟨some 9, _, _, _, _, _⟩) tyTr rfl rfl ?_)
  intro w2 hk2 hb2 hs2
  have HK2 : Kp _ := ⟨hk2⟩
  have HF2 : Kp _ := ⟨HK1.out.below hb2 HK1.out.lt⟩
  have hlt : w.heap.size < w1.heap.size := HK1.out.lt
  have hB2 : Below w.heap.size w w2 := hb1.trans (hb2.mono hb1.size)
  obtain ⟨g2, hg2⟩ : ∃ g, g = w1.heap.size := ⟨_, rfl⟩
  rw [← hg2] at HK2 hlt ⊢
  have hne : w.heap.size ≠ g2 := by omega
  have HLt : Kp (g2 < w2.heap.size) := ⟨HK2.out.lt⟩
  clear hs2 hk2 HK1 hb2 hb1 hg2
  have c0 : w2.cell? ⟨g2, 0, none⟩ = some (.int .i64 0) := HK2.out.cell? 0
  have f0 := HK2.out.frozen 0
  have c1 : w2.cell? ⟨g2, 1, none⟩ = some (.int .i64 0) := HK2.out.cell? 1
  have f1 := HK2.out.frozen 1
  have c2 : w2.cell? ⟨g2, 2, none⟩ = some (.int .i64 0) := HK2.out.cell? 2
  have f2 := HK2.out.frozen 2
  have c3 : w2.cell? ⟨g2, 3, none⟩ = some (.slice none 0 0) := HK2.out.cell? 3
  have f3 := HK2.out.frozen 3
  go_wp2_with fail
  have HK3 : Kp _ := HK2
  have HF3 : Kp _ := HF2
  have hB3 := hB2
  have HLt3 : Kp _ := HLt
  clear c0 c1 c2 c3 f0 f1 f2 f3 HK2 HF2 hB2
  obtain ⟨w3, rfl⟩ : ∃ x, x = w2 := ⟨_, rfl⟩
  refine (clone_any A n c bs _ ((HA.out.below hB3).more hB3.size) hn).mono ?_
  rintro e w4 ⟨v, rfl, ho4, hb4⟩
  obtain ⟨A4, c4', rfl, hc4, hm4, _⟩ := own_form ho4
  have HO4 : Kp _ := ⟨ho4⟩
  have HK4 : Kp _ := ⟨HK3.out.below hb4 HK3.out.lt⟩
  have HF4 : Kp _ := ⟨HF3.out.below hb4 HF3.out.lt⟩
  have hB4 : Below w.heap.size w w4 := hB3.trans (hb4.mono hB3.size)
  clear ho4 HK3 HF3
  have c0 : w4.cell? ⟨g2, 0, none⟩ = some (.int .i64 0) := HK4.out.cell? 0
  have f0 := HK4.out.frozen 0
  have c1 : w4.cell? ⟨g2, 1, none⟩ = some (.int .i64 0) := HK4.out.cell? 1
  have f1 := HK4.out.frozen 1
  have c2 : w4.cell? ⟨g2, 2, none⟩ = some (.int .i64 0) := HK4.out.cell? 2
  have f2 := HK4.out.frozen 2
  have c3 : w4.cell? ⟨g2, 3, none⟩ = some (.slice none 0 0) := HK4.out.cell? 3
  have f3 := HK4.out.frozen 3
  have HK5 : Kp (Blk (((w4.setCell ⟨g2, 1, none⟩ (.int .i64 pl)).setCell ⟨g2, 3, none⟩ (.slice A4 n c4')).setCell ⟨g2, 0, none⟩ (.int .i64 4)) g2 131 (hd4 (4, pl, 0, A4, n, c4'))) := ⟨((HK4.out.set 1 (.int .i64 pl)).set 3 (.slice A4 n c4')).set 0 (.int .i64 4)⟩
  have HF5 : Kp (Blk (((w4.setCell ⟨g2, 1, none⟩ (.int .i64 pl)).setCell ⟨g2, 3, none⟩ (.slice A4 n c4')).setCell ⟨g2, 0, none⟩ (.int .i64 4)) w.heap.size 131 zeroTr) := ⟨((HF4.out.other (p := ⟨g2, 1, none⟩) hne _).other (p := ⟨g2, 3, none⟩) hne _).other (p := ⟨g2, 0, none⟩) hne _⟩
  have hB5 : Below w.heap.size w (((w4.setCell ⟨g2, 1, none⟩ (.int .i64 pl)).setCell ⟨g2, 3, none⟩ (.slice A4 n c4')).setCell ⟨g2, 0, none⟩ (.int .i64 4)) := ((hB4.setCell (p := ⟨g2, 1, none⟩) (by simp; omega) _).setCell (p := ⟨g2, 3, none⟩) (by simp; omega) _).setCell (p := ⟨g2, 0, none⟩) (by simp; omega) _
  have HO5 : Kp ((((w4.setCell ⟨g2, 1, none⟩ (.int .i64 pl)).setCell ⟨g2, 3, none⟩ (.slice A4 n c4')).setCell ⟨g2, 0, none⟩ (.int .i64 4)).ownsRow w3.heap.size 5 1 (.slice A4 n c4') n (cells8 bs)) := ⟨own_grown (own_grown (own_grown HO4.out (grown_set _ g2 1 _) HLt3.out) (grown_set _ g2 3 _) HLt3.out) (grown_set _ g2 0 _) HLt3.out⟩
  have HV : Kp (([.int .i64 4, .int .i64 pl, .int .i64 0, .slice A4 n c4'] : List Value).length = 4) := ⟨rfl⟩
  have HO : Kp (∀ u ∈ ([.int .i64 4, .int .i64 pl, .int .i64 0, .slice A4 n c4'] : List Value), u.oneCell' = true) := ⟨hd4_one (4, pl, 0, A4, n, c4')⟩
  have h3 := hB3.size
  go_wp2_with (with_reducible refine wpList_storeAll (o := ⟨none, _, _, _, _, _⟩) (vs := [.int .i64 4, .int .i64 pl, .int .i64 0, .slice A4 n c4']) rwTr rfl (.tmp 8) (.tmp 28) rfl rfl HF5.out HZ.out HV.out HO.out rfl ?_)
  intro w6 hk6 ho6
  go_wp2
  refine ret_arr rfl rwTr rfl hk6 HV.out rfl ?_
  exact ⟨A4, c4', rfl, own_lower (own_grown HO5.out (grown_only ho6) (by have := HLt3.out; omega)) h3, hB5.trans (ho6.below (Nat.le_refl _))⟩
 ·go_enter Tryz.func55, Tryz.ntmps55
  go_wp2_with (with_reducible refine wpList_alloc (o := ⟨some 8, _, _, _, _, _⟩) tyTr rfl rfl ?_)
  intro w1 hk1 hb1 hs1
  have HK1 : Kp _ := ⟨hk1⟩
  clear hk1 hs1
  go_wp2_with (with_reducible refine wpList_alloc (o := ⟨some 9, _, _, _, _, _⟩) tyTr rfl rfl ?_)
  intro w2 hk2 hb2 hs2
  have HK2 : Kp _ := ⟨hk2⟩
  have HF2 : Kp _ := ⟨HK1.out.below hb2 HK1.out.lt⟩
  have hlt : w.heap.size < w1.heap.size := HK1.out.lt
  have hB2 : Below w.heap.size w w2 := hb1.trans (hb2.mono hb1.size)
  obtain ⟨g2, hg2⟩ : ∃ g, g = w1.heap.size := ⟨_, rfl⟩
  rw [← hg2] at HK2 hlt ⊢
  have hne : w.heap.size ≠ g2 := by omega
  have HLt : Kp (g2 < w2.heap.size) := ⟨HK2.out.lt⟩
  clear hs2 hk2 HK1 hb2 hb1 hg2
  have c0 : w2.cell? ⟨g2, 0, none⟩ = some (.int .i64 0) := HK2.out.cell? 0
  have f0 := HK2.out.frozen 0
  have c1 : w2.cell? ⟨g2, 1, none⟩ = some (.int .i64 0) := HK2.out.cell? 1
  have f1 := HK2.out.frozen 1
  have c2 : w2.cell? ⟨g2, 2, none⟩ = some (.int .i64 0) := HK2.out.cell? 2
  have f2 := HK2.out.frozen 2
  have c3 : w2.cell? ⟨g2, 3, none⟩ = some (.slice none 0 0) := HK2.out.cell? 3
  have f3 := HK2.out.frozen 3
  have HK5 : Kp _ := ⟨HK2.out.set 0 (.int .i64 5)⟩
  have HF5 : Kp _ := ⟨HF2.out.other (p := ⟨g2, 0, none⟩) hne (.int .i64 5)⟩
  have hB5 : Below w.heap.size w (w2.setCell ⟨g2, 0, none⟩ (.int .i64 5)) := hB2.setCell (by simp; omega) _
  have HV : Kp (([.int .i64 5, .int .i64 0, .int .i64 0, .slice none 0 0] : List Value).length = 4) := ⟨rfl⟩
  have HO : Kp (∀ u ∈ ([.int .i64 5, .int .i64 0, .int .i64 0, .slice none 0 0] : List Value), u.oneCell' = true) := ⟨hd4_one (5, 0, 0, none, 0, 0)⟩
  obtain rfl : n = 0 := by have := HL.out; simpa using this.symm
  go_wp2_with (with_reducible refine wpList_storeAll (o := ⟨none, _, _, _, _, _⟩) (vs := [.int .i64 5, .int .i64 0, .int .i64 0, .slice none 0 0]) rwTr rfl (.tmp 8) (.tmp 28) rfl rfl HF5.out HZ.out HV.out HO.out rfl ?_)
  intro w6 hk6 ho6
  go_wp2
  refine ret_arr rfl rwTr rfl hk6 HV.out rfl ?_
  exact ⟨none, 0, rfl, own_nil _ _ _, hB5.trans (ho6.below (Nat.le_refl _))⟩
end Go.Proofs.YtcehkafddlfleaaGreatDoor

namespace Go.Proofs.YtcehkafddlfleaaGreatDoor
open Go.RowKit
theorem infoTr : ((Tryz.prog).info? 131).map (fun i => (i.zero, i.size, i.bytes)) = some (some (.agg zeroTr.toArray), 4, 48) := by kernel_rfl
section
variable {w : World} {ops : Array Oper} {o : Oper} {a : Act} {Q : Exit → Act → World → Prop}
theorem step_appT {K : Act → World → Prop} {C : Prop} (hgd : o.guard = none) (s x : Operand)
  (ho : o.op = .call { callee := .builtin .append, args := #[s, x], argTypes := #[45, 45] })
  (v : Value) (n : Nat) (L : List Hd4) (hs : a.eval s = v) (hown : w.ownsRow 0 131 4 v n (trCells L)) (hd : Hd4) (g : Nat)
  (hx : a.eval x = .slice (some ⟨g, 0, none⟩) 1 1) (hb : Blk w g 131 (hd4 hd)) (h63 : n ≤ 1000000)
  (h : ∀ v' w', w'.ownsRow 0 131 4 v' (n + 1) (trCells L ++ hd4 hd) → w.grownBy w' v.ownBlock → (v'.ownBlock = v.ownBlock ∨ v'.ownBlock = some w.heap.size) → K (a.put o.dst v') w') :
  if Region.wanted o (yielded ops a.tmps) = true then Oper.wp Tryz.prog o a w K Q else C := by
 have hw : Region.wanted o (yielded ops a.tmps) = true := by simp [Region.wanted, hgd]
 rw [if_pos hw]
 obtain ⟨i, hi, hz0, hz1, hz2⟩ := info_parts infoTr
 obtain ⟨v', w', hrun, h2, h3, _, h5⟩ := run_append_own_at (P := Tryz.prog) w 0 45 o.type 131 i (.agg zeroTr.toArray) 4 48 Tryz.underlying45 hi hz0 hz1 hz2 rfl (by decide) v n (trCells L) hown ⟨g, 0, none⟩ 1 1 (hd4 hd) rfl
  (fun j u hu => by rw [Addr.add_lit, Nat.zero_add, hb.cell? j]; exact hu) (hd4_one hd) (by simp only [maxLen]; omega) (by omega) (Nat.zero_le _)
 unfold Oper.wp execOp
 simp only [ho, resolve, invoke, builtin, Sem.run_bind, Sem.run_pure, Result.andThen_ok, List.map_toArray, List.map_cons, List.map_nil, hs, hx, hrun]
 exact h v' w' h2 h3 h5
end
theorem Tc.later {O M : Nat → Prop} {vt : Value} {tr : List Tr} {L : List Hd4} {w w' : World} (h : Tc w O M vt tr L) (hb : Below w.heap.size w w') : w'.ownsRow 0 131 4 vt tr.length (trCells L) :=
 own4_stay h.own (fun g hg => hb.block g (by obtain ⟨cs, hh⟩ := h.row hg; exact (Array.getElem?_eq_some_iff.1 hh).1))
theorem own_slice {w : World} {base size n : Nat} {e : TypeId} {v : Value} {xs : List Value} (h : w.ownsRow base e size v n xs) : ∃ A n c, v = .slice A n c := by
 rcases h.2 with ⟨rfl, _⟩ | ⟨g, cap, cur, rfl, _⟩
 ·exact ⟨_, _, _, rfl⟩
 ·exact ⟨_, _, _, rfl⟩
def noteO (O : Nat → Prop) (v : Value) : Nat → Prop := fun k => O k ∨ v.ownBlock = some k
theorem note_parts {O M : Nat → Prop} {b : Nat} {ad : Ad} {t : Wd} {p : Int × Int → Option Nat} {L : List Hd4} {w w1 w2 w3 : World} (h : Parts w O M b ad t p L) {x : Tr} (hk : TrOk x) {A : Option Addr} {n c : Nat} (hb1 : Below w.heap.size w w1)
  (hrow : w1.ownsRow w.heap.size 5 1 (.slice A n c) n (cells8 x.bytes)) (hn : n ≤ 4294967296) {v : Value} (hb2 : Below w1.heap.size w1 w2) (hown : w3.ownsRow 0 131 4 v (t.tr.length + 1) (trCells L ++ hd4 (x.kind, x.pl, x.slot, A, n, c))) (hg : w2.grownBy w3 ad.vt.ownBlock)
  (hloc : v.ownBlock = ad.vt.ownBlock ∨ v.ownBlock = some w2.heap.size) :
  Blk w3 b 108 (wdCells ad t) ∧ Parts (w3.setCell ⟨b, 9, none⟩ v) (noteO O v) (Or2 M (noteO O v)) b { ad with vt := v } { t with tr := t.tr ++ [x] } p (L ++ [(x.kind, x.pl, x.slot, A, n, c)]) ∧ Nx w O (w3.setCell ⟨b, 9, none⟩ v) (noteO O v) := by
 have hOlt : ∀ k, O k → k < w.heap.size := fun k hk => h.lt k (h.sub k hk)
 have C12 : Chg O w1 w2 := Chg.of_below O hb2
 have C23 : Chg O w2 w3 := Chg.of_grown hg (fun g e => h.trace.mine g e)
 have C13 : Chg O w1 w3 := C12.trans C23 (fun _ _ h => h)
 have C03 : Chg O w w3 := (Chg.of_below O hb1).trans C13 (fun _ _ h => h)
 have keep3 : ∀ k, O k → ad.vt.ownBlock ≠ some k → w3.heap[k]? = w.heap[k]? := fun k hk hne => by
  have hkl := hOlt k hk
  rw [hg.block k (by have := hb1.size; have := hb2.size; omega) (fun e => hne e.symm), hb2.block k (by have := hb1.size; omega), hb1.block k hkl]
 have hbv : ad.vt.ownBlock ≠ some b := fun e => (h.trace.row e).ne h.blk.row (by decide) rfl
 have B3 : Blk w3 b 108 (wdCells ad t) := ⟨(keep3 b h.ob hbv).trans h.blk.heap⟩
 have C34 : Only b w3 (w3.setCell ⟨b, 9, none⟩ v) := Only.setCell w3 ⟨b, 9, none⟩ v
 have C04 : Chg O w (w3.setCell ⟨b, 9, none⟩ v) := C03.trans (Chg.of_only (S := O) C34 h.ob) (fun _ _ h => h)
 have C14 : Chg O w1 (w3.setCell ⟨b, 9, none⟩ v) := C13.trans (Chg.of_only (S := O) C34 h.ob) (fun _ _ h => h)
 have keep4 : ∀ k, O k → ad.vt.ownBlock ≠ some k → k ≠ b → (w3.setCell ⟨b, 9, none⟩ v).heap[k]? = w.heap[k]? := fun k hk hne hb => (C34.block k hb).trans (keep3 k hk hne)
 have hv3 : ∀ g, v.ownBlock = some g → IsRow w3 131 g := fun g hg => by
  rcases hown.2 with ⟨rfl, _⟩ | ⟨g', cap, cur, rfl, _, hh, _⟩
  ·cases hg
  ·obtain rfl : g' = g := Option.some.inj hg
   exact ⟨_, hh⟩
 have hnew : ∀ k, noteO O v k → O k ∨ w1.heap.size ≤ k := fun k hk => by
  rcases hk with h1 | h1
  ·exact .inl h1
  ·rcases hloc with e | e
   ·exact .inl (h.trace.mine k (e ▸ h1))
   ·rw [e] at h1
    have := Option.some.inj h1
    right; rw [← this]; exact hb2.size
 have NX : Nx w O (w3.setCell ⟨b, 9, none⟩ v) (noteO O v) := by
  refine ⟨C04, fun k hk => .inl hk, fun k hk => (hnew k hk).imp id (fun h2 => Nat.le_trans hb1.size h2), fun k hk => ?_⟩
  rcases hk with h1 | h1
  ·exact Nat.lt_of_lt_of_le (hOlt k h1) C04.size
  ·obtain ⟨cs, hh⟩ := hv3 k h1
   have := (Array.getElem?_eq_some_iff.1 hh).1
   simpa [World.setCell] using this
 have hM1 : ∀ k, Or2 M (noteO O v) k → M k ∨ w1.heap.size ≤ k := fun k hk => by
  rcases hk with h1 | h1
  ·exact .inl h1
  ·exact (hnew k h1).imp (h.sub k) id
 have hM0 : ∀ k, Or2 M (noteO O v) k → M k ∨ w.heap.size ≤ k := or2_new h.sub NX
 refine ⟨B3, ⟨fun k hk => .inr hk, or2_lt h.lt NX, .inl h.ob, ?_, ?_, ?_, ?_, ?_, ?_, h.big, h.pow, h.num, h.read, h.two⟩, NX⟩
 ·exact B3.set 9 v
 ·refine h.slots.stay (fun k hk => .inl hk) (fun k hk hkk => keep4 k hk (fun e => ?_) ?_)
  ·rcases hkk with h1 | h1
   ·exact h1.ne (h.trace.row e) rfl
   ·exact h1.ne (h.trace.row e) (by decide) rfl
  ·rcases hkk with h1 | h1
   ·exact h1.ne h.blk.row
   ·exact h1.ne h.blk.row (by decide)
 ·exact h.lies.stay (fun k hk => .inl hk) (fun k hk hkk => keep4 k hk (fun e => hkk.ne (h.trace.row e) rfl) (hkk.ne h.blk.row)) C04 h.sub hM0
 ·exact h.seal0.chg C04 h.sub hM0
 ·exact h.seal1.chg C04 h.sub hM0
 ·obtain ⟨A2, c2, e2, hbs⟩ := BsM.of_own (M := M) hrow h.lt hn
  obtain ⟨rfl, rfl⟩ : A2 = A ∧ c2 = c := by injection e2 with e3 e4 e5; exact ⟨e3.symm, e5.symm⟩
  refine ⟨?_, fun g hg => .inr hg, ?_⟩
  ·simp only [List.length_append, List.length_singleton, trCells_append]
   have : trCells [(x.kind, x.pl, x.slot, A2, n, c2)] = hd4 (x.kind, x.pl, x.slot, A2, n, c2) := by simp [trCells]
   rw [this]
   exact own4_stay hown (fun g hg => C34.block g ((hv3 g hg).ne B3.row (by decide)))
  ·exact (h.trace.heads.chg C04 h.sub hM0).snoc ⟨hk, rfl, rfl, rfl, hbs.chg C14 h.sub hM1⟩
set_option maxRecDepth 100000 in
set_option maxHeartbeats 4000000 in
theorem note_any {O M : Nat → Prop} {b : Nat} {ad : Ad} {t : Wd} {p : Int × Int → Option Nat} {L : List Hd4} {w : World} (h : Parts w O M b ad t p L) (x : Tr) (hk : TrOk x) (A : Option Addr) (n c : Nat) (ha : Bs w w.heap.size A n c x.bytes) (hn : n ≤ 4294967296) (hlen : t.tr.length ≤ 1000000) :
  Calls Tryz.prog 190 #[.pointer (some ⟨b, 0, none⟩), .int .i64 x.kind, .int .i64 x.pl, .int .i64 x.slot, .slice A n c] w fun e w' => e = .returned (.tuple #[]) ∧
   ∃ ad' L' O', Parts w' O' (Or2 M O') b ad' { t with tr := t.tr ++ [x] } p L' ∧ Nx w O w' O' := by
 have hP0 := h.below (Below.refl w.heap.size w).drew
 have hA0 : Bs w.drew w.drew.heap.size A n c x.bytes := ha.drew
 have hN0 : Nx w O w.drew O := Nx.same (Chg.drew0 O w) (fun k hk => h.lt k (h.sub k hk))
 go_enter Tryz.func190, Tryz.ntmps190
 go_wp2_with fail
 clear h ha
 refine wp_region_any (by kernel_rfl) ?_
 change wpAny _ _ _ _ _ _ _ w.drew
 generalize w.drew = wS at *
 have HP : Kp _ := ⟨hP0⟩
 have HA : Kp _ := ⟨hA0⟩
 have HN : Kp _ := ⟨hN0⟩
 have hb0 : Below wS.heap.size wS wS := Below.refl _ _
 have HX : Kp (∀ W, Below wS.heap.size wS W → W.cell? ⟨b, 9, none⟩ = some ad.vt) := ⟨fun W hW => by rw [(hP0.blk.below hW hP0.blk.lt).cell? 9]; rfl⟩
 clear hP0 hA0 hN0
 refine wT 0 10 ?_ rfl ?_
 try simp only [Act.put, sA, sB, sC]
 refine wT 1 11 ?_ rfl ?_
 try simp only [Act.put, sA, sB, sC]
 refine wT 2 12 ?_ rfl ?_
 try simp only [Act.put, sA, sB, sC]
 refine wT 3 13 ?_ rfl ?_
 try simp only [Act.put, sA, sB, sC]
 refine wT 5 15 ?_ rfl ?_
 try simp only [Act.put, sA, sB, sC]
 refine wT 6 16 ?_ rfl ?_
 try simp only [Act.put, sA, sB, sC]
 refine wT 7 17 ?_ rfl ?_
 try simp only [Act.put, sA, sB, sC]
 refine wT 8 18 ?_ rfl ?_
 try simp only [Act.put, sA, sB, sC]
 refine rK [4, 9] ?_
 refine aS 14 19 rfl rfl (fun K hK => ?_) fun K hK => ?_
 ·have c9 := HX.out wS hb0
  go_simp
  refine hK _ _ ?_
  clear hK K c9
  try simp only [Act.put, sA, sB, sC]
  refine rK [9] ?_
  refine aR 19 rfl fun K hK => ?_
  go_simp
  refine (traced_any x hk A n c wS HA.out hn).mono ?_
  rintro e w62 ⟨A', c', rfl, ho', hb0'⟩
  replace hb0 := hb0'
  have HO : Kp _ := ⟨And.intro ho' hb0'⟩
  clear ho' hb0'
  simp only [hd4]
  refine hK _ _ ?_
  clear hK K
  try simp only [Act.put, sA, sB, sC]
  refine rK [10] ?_
  refine aR 20 rfl fun K hK => ?_
  have HB2 : Kp _ := ⟨And.intro (Blk.new w62 131 (hd4 (x.kind, x.pl, x.slot, A', n, c'))) ((Below.refl w62.heap.size w62).alloc (Nat.le_refl _) (.cells (hd4 (x.kind, x.pl, x.slot, A', n, c')).toArray 131))⟩
  have hgs : w62.heap.size = w62.heap.size := rfl
  generalize hgg : w62.heap.size = g2 at HB2 ⊢
  simp only [hd4] at HB2
  go_simp
  try rw [hgg]
  refine hK _ _ ?_
  clear hK K
  try simp only [Act.put, sA, sB, sC]
  replace hb0 := hb0.trans (HB2.out.2.mono (by rw [← hgg]; exact hb0.size))
  generalize w62.alloc (.cells #[.int .i64 x.kind, .int .i64 x.pl, .int .i64 x.slot, .slice A' n c'] 131) = w63 at *
  refine rK [11] ?_
  refine aR 21 rfl fun K hK => ?_
  refine step_appT rfl (.tmp 14) (.tmp 20) rfl ad.vt t.tr.length L rfl (HP.out.trace.later hb0) (x.kind, x.pl, x.slot, A', n, c') g2 rfl HB2.out.1 hlen ?_
  intro v3 w3 hown3 hg3 hloc3
  obtain ⟨A3, n3, c3, rfl⟩ := own_slice hown3
  have HC : Kp _ := ⟨note_parts HP.out hk HO.out.2 HO.out.1 hn (by rw [hgg]; exact HB2.out.2) hown3 hg3 hloc3⟩
  clear hown3 hg3 hloc3 HB2
  have c9 : w3.cell? ⟨b, 9, none⟩ = some ad.vt := by rw [HC.out.1.cell? 9]; rfl
  have f9 := HC.out.1.frozen 9
  refine hK _ _ ?_
  clear hK K
  try simp only [Act.put, sA, sB, sC]
  refine wT 12 22 ?_ rfl ?_
  try simp only [Act.put, sA, sB, sC]
  refine wT 13 23 ?_ rfl ?_
  try simp only [Act.put, sA, sB, sC]
  refine rK [14] ?_
  refine AllReady.cons (o := ⟨none, _, _, _, _, _⟩) rfl (fun K hK => ?_) AllReady.nil
  go_simp
  refine hK _ _ ?_
  clear hK K c9 f9
  try simp only [Act.put]
  refine wpAny_done (by kernel_rfl) ?_ _
  go_wp2
  go_end0
  exact ⟨rfl, _, _, _, HC.out.2.1, HN.out.trans HC.out.2.2⟩
 ·go_simp
  refine (traced_any x hk A n c wS HA.out hn).mono ?_
  rintro e w66 ⟨A', c', rfl, ho', hb0'⟩
  replace hb0 := hb0'
  have HO : Kp _ := ⟨And.intro ho' hb0'⟩
  clear ho' hb0'
  simp only [hd4]
  refine hK _ _ ?_
  clear hK K
  try simp only [Act.put, sA, sB, sC]
  refine rK [4, 10] ?_
  refine aS 14 20 rfl rfl (fun K hK => ?_) fun K hK => ?_
  ·have c9 := HX.out w66 hb0
   go_simp
   refine hK _ _ ?_
   clear hK K c9
   try simp only [Act.put, sA, sB, sC]
   refine rK [10] ?_
   refine aR 20 rfl fun K hK => ?_
   have HB2 : Kp _ := ⟨And.intro (Blk.new w66 131 (hd4 (x.kind, x.pl, x.slot, A', n, c'))) ((Below.refl w66.heap.size w66).alloc (Nat.le_refl _) (.cells (hd4 (x.kind, x.pl, x.slot, A', n, c')).toArray 131))⟩
   have hgs : w66.heap.size = w66.heap.size := rfl
   generalize hgg : w66.heap.size = g2 at HB2 ⊢
   simp only [hd4] at HB2
   go_simp
   try rw [hgg]
   refine hK _ _ ?_
   clear hK K
   try simp only [Act.put, sA, sB, sC]
   replace hb0 := hb0.trans (HB2.out.2.mono (by rw [← hgg]; exact hb0.size))
   generalize w66.alloc (.cells #[.int .i64 x.kind, .int .i64 x.pl, .int .i64 x.slot, .slice A' n c'] 131) = w68 at *
   refine rK [11] ?_
   refine aR 21 rfl fun K hK => ?_
   refine step_appT rfl (.tmp 14) (.tmp 20) rfl ad.vt t.tr.length L rfl (HP.out.trace.later hb0) (x.kind, x.pl, x.slot, A', n, c') g2 rfl HB2.out.1 hlen ?_
   intro v3 w3 hown3 hg3 hloc3
   obtain ⟨A3, n3, c3, rfl⟩ := own_slice hown3
   have HC : Kp _ := ⟨note_parts HP.out hk HO.out.2 HO.out.1 hn (by rw [hgg]; exact HB2.out.2) hown3 hg3 hloc3⟩
   clear hown3 hg3 hloc3 HB2
   have c9 : w3.cell? ⟨b, 9, none⟩ = some ad.vt := by rw [HC.out.1.cell? 9]; rfl
   have f9 := HC.out.1.frozen 9
   refine hK _ _ ?_
   clear hK K
   try simp only [Act.put, sA, sB, sC]
   refine wT 12 22 ?_ rfl ?_
   try simp only [Act.put, sA, sB, sC]
   refine wT 13 23 ?_ rfl ?_
   try simp only [Act.put, sA, sB, sC]
   refine rK [14] ?_
   refine AllReady.cons (o := ⟨none, _, _, _, _, _⟩) rfl (fun K hK => ?_) AllReady.nil
   go_simp
   refine hK _ _ ?_
   clear hK K c9 f9
   try simp only [Act.put]
   refine wpAny_done (by kernel_rfl) ?_ _
   go_wp2
   go_end0
   exact ⟨rfl, _, _, _, HC.out.2.1, HN.out.trans HC.out.2.2⟩
  ·have HB2 : Kp _ := ⟨And.intro (Blk.new w66 131 (hd4 (x.kind, x.pl, x.slot, A', n, c'))) ((Below.refl w66.heap.size w66).alloc (Nat.le_refl _) (.cells (hd4 (x.kind, x.pl, x.slot, A', n, c')).toArray 131))⟩
   have hgs : w66.heap.size = w66.heap.size := rfl
   generalize hgg : w66.heap.size = g2 at HB2 ⊢
   simp only [hd4] at HB2
   go_simp
   try rw [hgg]
   refine hK _ _ ?_
   clear hK K
   try simp only [Act.put, sA, sB, sC]
   replace hb0 := hb0.trans (HB2.out.2.mono (by rw [← hgg]; exact hb0.size))
   generalize w66.alloc (.cells #[.int .i64 x.kind, .int .i64 x.pl, .int .i64 x.slot, .slice A' n c'] 131) = w71 at *
   refine rK [4] ?_
   refine aR 14 rfl fun K hK => ?_
   have c9 := HX.out w71 hb0
   go_simp
   refine hK _ _ ?_
   clear hK K c9
   try simp only [Act.put, sA, sB, sC]
   refine rK [11] ?_
   refine aR 21 rfl fun K hK => ?_
   refine step_appT rfl (.tmp 14) (.tmp 20) rfl ad.vt t.tr.length L rfl (HP.out.trace.later hb0) (x.kind, x.pl, x.slot, A', n, c') g2 rfl HB2.out.1 hlen ?_
   intro v3 w3 hown3 hg3 hloc3
   obtain ⟨A3, n3, c3, rfl⟩ := own_slice hown3
   have HC : Kp _ := ⟨note_parts HP.out hk HO.out.2 HO.out.1 hn (by rw [hgg]; exact HB2.out.2) hown3 hg3 hloc3⟩
   clear hown3 hg3 hloc3 HB2
   have c9 : w3.cell? ⟨b, 9, none⟩ = some ad.vt := by rw [HC.out.1.cell? 9]; rfl
   have f9 := HC.out.1.frozen 9
   refine hK _ _ ?_
   clear hK K
   try simp only [Act.put, sA, sB, sC]
   refine wT 12 22 ?_ rfl ?_
   try simp only [Act.put, sA, sB, sC]
   refine wT 13 23 ?_ rfl ?_
   try simp only [Act.put, sA, sB, sC]
   refine rK [14] ?_
   refine AllReady.cons (o := ⟨none, _, _, _, _, _⟩) rfl (fun K hK => ?_) AllReady.nil
   go_simp
   refine hK _ _ ?_
   clear hK K c9 f9
   try simp only [Act.put]
   refine wpAny_done (by kernel_rfl) ?_ _
   go_wp2
   go_end0
   exact ⟨rfl, _, _, _, HC.out.2.1, HN.out.trans HC.out.2.2⟩
end Go.Proofs.YtcehkafddlfleaaGreatDoor
