/- The law NodeDecodes. -/
import Derived.Test.YtmiobgongddaiaaLw13
namespace Go.Proofs.Ytmiobgongddaiaa
open Go.RowKit Go.Shelf

section
set_option maxRecDepth 100000
set_option maxHeartbeats 4000000
theorem law_nodeDecodes (A : Option Addr) (n c : Nat) (b : List UInt8) (A' : Option Addr) (n' c' : Nat) (d : List UInt8) (w : World) (hb' : Bs w w.heap.size A n c b ∧ c ≤ 140737488351232) (hd' : Bs w w.heap.size A' n' c' d ∧ c' ≤ 140737488351232) :
    Calls Try.prog 4 #[.slice A n c, .slice A' n' c'] w fun e w' => e = .returned (.bool true) ∧ Below w.heap.size w w' := by
  obtain ⟨hb, hc1⟩ := hb'
  obtain ⟨hd, hc2⟩ := hd'
  have HBb : Kp _ := ⟨hb⟩
  have HBd : Kp _ := ⟨hd⟩
  have hn1 := Nat.le_trans hb.cap hc1
  have hn2 := Nat.le_trans hd.cap hc2
  clear hb hd hc1 hc2
  by_cases hbig : 1000 < n + n'
  · have hI : (1000 : Int) < (n : Int) + (n' : Int) := by omega
    go_enter Try.func4, Try.ntmps4
    go_wp2_with fail
    refine (known13_any w).mono ?_
    rintro e w1 ⟨rfl, hb1⟩
    have HB : Kp _ := ⟨hb1⟩
    clear hb1
    go_wp2
    go_ret
    exact ⟨rfl, HB.out⟩
  · have hI : ¬ ((1000 : Int) < (n : Int) + (n' : Int)) := by omega
    have hs1 : n ≤ 1000 := by omega
    have hs2 : n' ≤ 1000 := by omega
    have HLa : Kp ((decA b).length = 10) := ⟨by unfold decA; split <;> simp [decL_length, wideN]⟩
    have HLz : Kp ((cellsZ (decA b)).length = 10) := ⟨by rw [cellsZ_length]; exact HLa.out⟩
    have HRun : Kp _ := ⟨fun W => run_eqN W (decA b) (decA b) HLa.out HLa.out⟩
    rw [show (decA b == decA b) = true from by simp] at HRun
    have HSame : Kp ((ptrA d == ptrA d) = true) := ⟨by simp⟩
    have HC1 : Kp _ := ⟨decode_any A n c b w HBb.out⟩
    have HC2 : Kp (∀ W, Bs W W.heap.size A n c b → _) := ⟨fun W h => refdecode_any A n c b W h (by omega)⟩
    have HC3 : Kp (∀ W, Bs W W.heap.size A' n' c' d → _) := ⟨fun W h => pointers_any A' n' c' d W h⟩
    have HC4 : Kp (∀ W, Bs W W.heap.size A' n' c' d → _) := ⟨fun W h => refpointers_any A' n' c' d W h (by omega)⟩
    generalize decA b = zs at *
    generalize decE b = ze at *
    generalize ptrA d = ps at *
    generalize ptrE d = pe at *
    clear hbig HLa
    go_enter Try.func4, Try.ntmps4
    go_wp2_with fail
    refine HC1.out.mono ?_
    rintro e w1 ⟨rfl, hb1⟩
    have HBb1 : Kp _ := ⟨HBb.out.next hb1 (Nat.le_refl _)⟩
    have HBd1 : Kp _ := ⟨HBd.out.next hb1 (Nat.le_refl _)⟩
    have HB1 : Kp _ := ⟨hb1⟩
    clear hb1 HC1 HBb HBd
    obtain ⟨X, hX⟩ : ∃ X, X = w1.heap.size := ⟨_, rfl⟩
    go_wp2_with (refine wpList_alloc tyNd rfl rfl ?_)
    intro w2 hk2 hb2 _
    rw [← hX] at hk2 ⊢
    have HX2 : Kp _ := ⟨hk2⟩
    have HB2 : Kp (Below w.heap.size w w2) := ⟨HB1.out.trans (hb2.mono HB1.out.size)⟩
    have HBb2 : Kp (Bs w2 X A n c b) := ⟨by rw [hX]; exact HBb1.out.below hb2⟩
    have HBd2 : Kp (Bs w2 X A' n' c' d) := ⟨by rw [hX]; exact HBd1.out.below hb2⟩
    have HXw : Kp (w.heap.size ≤ X) := ⟨by rw [hX]; exact HB1.out.size⟩
    clear hk2 hb2 hX HB1 HBb1 HBd1
    go_wp2_with (refine wpList_storeAll rwNd rfl _ _ rfl rfl HX2.out (n := 10) rfl (vs := cellsZ zs) HLz.out (cellsZ_one _) rfl ?_)
    intro w3 hk3 ho3
    have HX3 : Kp _ := ⟨hk3⟩
    have HB3 : Kp (Below w.heap.size w w3) := ⟨HB2.out.trans (ho3.below HXw.out)⟩
    have HBb3 : Kp (Bs w3 w3.heap.size A n c b) := ⟨(HBb2.out.below (ho3.below (Nat.le_refl _))).more (Nat.le_of_lt hk3.lt)⟩
    have HBd3 : Kp (Bs w3 w3.heap.size A' n' c' d) := ⟨(HBd2.out.below (ho3.below (Nat.le_refl _))).more (Nat.le_of_lt hk3.lt)⟩
    clear hk3 ho3 HX2 HB2 HBb2 HBd2
    have HCl : Kp _ := ⟨HC2.out w3 HBb3.out⟩
    go_wp2_with fail
    refine HCl.out.mono ?_
    rintro e w4 ⟨rfl, hb4⟩
    have HX4 : Kp _ := ⟨HX3.out.below hb4 HX3.out.lt⟩
    have HB4 : Kp (Below w.heap.size w w4) := ⟨HB3.out.trans (hb4.mono HB3.out.size)⟩
    have HBd4 : Kp _ := ⟨HBd3.out.next hb4 (Nat.le_refl _)⟩
    clear hb4 HX3 HB3 HBd3 HBb3 HCl HC2
    obtain ⟨Y, hY⟩ : ∃ Y, Y = w4.heap.size := ⟨_, rfl⟩
    go_wp2_with (refine wpList_alloc tyNd rfl rfl ?_)
    intro w5 hk5 hb5 _
    rw [← hY] at hk5 ⊢
    have HY5 : Kp _ := ⟨hk5⟩
    have HX5 : Kp _ := ⟨HX4.out.below hb5 HX4.out.lt⟩
    have HXY : Kp (X ≠ Y) := ⟨by rw [hY]; exact alloc_ne HX4.out⟩
    have HB5 : Kp (Below w.heap.size w w5) := ⟨HB4.out.trans (hb5.mono HB4.out.size)⟩
    have HBd5 : Kp (Bs w5 Y A' n' c' d) := ⟨by rw [hY]; exact HBd4.out.below hb5⟩
    have HYw : Kp (w.heap.size ≤ Y) := ⟨by rw [hY]; exact HB4.out.size⟩
    clear hk5 hb5 hY HB4 HX4 HBd4
    go_wp2_with (refine wpList_storeAll rwNd rfl _ _ rfl rfl HY5.out (n := 10) rfl (vs := cellsZ zs) HLz.out (cellsZ_one _) rfl ?_)
    intro w6 hk6 ho6
    have HY6 : Kp _ := ⟨hk6⟩
    have HX6 : Kp _ := ⟨HX5.out.only ho6 HXY.out⟩
    have HB6 : Kp (Below w.heap.size w w6) := ⟨HB5.out.trans (ho6.below HYw.out)⟩
    have HBd6 : Kp (Bs w6 w6.heap.size A' n' c' d) := ⟨(HBd5.out.below (ho6.below (Nat.le_refl _))).more (Nat.le_of_lt hk6.lt)⟩
    have HCl : Kp _ := ⟨HC3.out w6 HBd6.out⟩
    clear hk6 ho6 HY5 HX5 HB5 HBd5
    go_wp2_with fail
    refine HCl.out.mono ?_
    rintro e w7 ⟨A7, m7, c7, rfl, hz7, hb7⟩
    have HX7 : Kp _ := ⟨HX6.out.below hb7 HX6.out.lt⟩
    have HY7 : Kp _ := ⟨HY6.out.below hb7 HY6.out.lt⟩
    have HB7 : Kp (Below w.heap.size w w7) := ⟨HB6.out.trans (hb7.mono HB6.out.size)⟩
    have HBd7 : Kp _ := ⟨HBd6.out.next hb7 (Nat.le_refl _)⟩
    have HZ7 : Kp _ := ⟨hz7⟩
    clear hb7 hz7 HX6 HY6 HB6 HBd6 HCl HC3
    have HCl : Kp _ := ⟨HC4.out w7 HBd7.out⟩
    go_wp2_with fail
    refine HCl.out.mono ?_
    rintro e w8 ⟨A8, m8, c8, rfl, hz8, hb8⟩
    have HX8 : Kp _ := ⟨HX7.out.below hb8 HX7.out.lt⟩
    have HY8 : Kp _ := ⟨HY7.out.below hb8 HY7.out.lt⟩
    have HB8 : Kp (Below w.heap.size w w8) := ⟨HB7.out.trans (hb8.mono HB7.out.size)⟩
    have hcall := sameints_any A7 A8 m7 c7 m8 c8 ps ps w8 _ _ (HZ7.out.below hb8) hz8
    rw [HSame.out] at hcall
    clear HCl
    have HCl : Kp _ := ⟨hcall⟩
    clear hb8 hz8 hcall HX7 HY7 HB7 HBd7 HZ7 HC4
    go_wp2_with (first | refine wpList_loadAll rwNd rfl _ rfl rfl HX8.out HLz.out ?_ | refine wpList_loadAll rwNd rfl _ rfl rfl HY8.out HLz.out ?_ | refine wpList_eql_g eqG rfl _ _ rfl rfl rfl (HRun.out _) ?_)
    refine HCl.out.mono ?_
    rintro e w9 ⟨rfl, hb9⟩
    have HB9 : Kp (Below w.heap.size w w9) := ⟨HB8.out.trans (hb9.mono HB8.out.size)⟩
    clear hb9 HCl
    go_wp2_with fail
    refine (known13_any w9).mono ?_
    rintro e w10 ⟨rfl, hb10⟩
    have HB10 : Kp (Below w.heap.size w w10) := ⟨HB9.out.trans (hb10.mono HB9.out.size)⟩
    clear hb10
    go_wp2
    go_ret
    exact ⟨rfl, HB10.out⟩
end
end Go.Proofs.Ytmiobgongddaiaa
