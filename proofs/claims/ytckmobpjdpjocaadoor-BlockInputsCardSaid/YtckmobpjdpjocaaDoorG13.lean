/- The listed variable errors.errorType: what its condition gives a walk, and a world that meets it.
   BlockShows' walk.
   BlockKeys' walk. -/
import Derived.Test.YtckmobpjdpjocaaDoorG03
import Derived.LaidLaws
import Derived.LaidHandle
import Derived.ChangeVars
import Derived.JoinedOf
import Derived.Stop.Joined
import Derived.Test.YtckmobpjdpjocaaDoorG09
import Derived.Test.YtckmobpjdpjocaaDoorG12
namespace Go.Proofs.YtckmobpjdpjocaaDoor
open Go.RowKit

theorem laid_et : Tryd.prog.globalNamed "errors.errorType" = some 0 := by kernel_rfl
theorem laid_rt : (Tryd.prog.cutTypes.find? (·.1 == "internal/reflectlite.rtype")).map (·.2) = some 123 := by kernel_rfl
theorem laid_size : Tryd.prog.types.size = 168 := by kernel_rfl
theorem laid_oneRow : ((List.range 168).filter fun t => Tryd.prog.rowNamed t [101, 114, 114, 111, 114]) = [59] := by kernel_rfl
theorem ety_of_laid {W : World} (h : laidMetH Tryd.prog [("errors.errorType", Rows.laid_errors_errorType)] W) : Ety W := by
  have h' : laidMet Tryd.prog [] W ∧ handlesMet Tryd.prog [("errors.errorType", Rows.laid_errors_errorType)] W := h
  obtain ⟨name, u, ty, e1, e2, e3, e4, e5⟩ := h'.2 _ (List.mem_singleton.2 rfl)
  have en : name = [101, 114, 114, 111, 114] := (Option.some.inj e1).symm
  subst en
  obtain rfl := Option.some.inj (laid_rt.symm.trans e2)
  have hm : ty ∈ (List.range 168).filter fun t => Tryd.prog.rowNamed t [101, 114, 114, 111, 114] := List.mem_filter.2 ⟨List.mem_range.2 (by rw [← laid_size]; exact e3), e4⟩
  rw [laid_oneRow] at hm
  obtain rfl := List.mem_singleton.1 hm
  have hh : typeHandle Tryd.prog 59 = .pointer (some ⟨1, 59, none⟩) := by kernel_rfl
  rw [hh] at e5
  exact ⟨by simpa using World.var?_cell laid_et e5 0⟩
/-- A world that meets the condition: the settled one, the variable's cell laid. -/
noncomputable def laidWorld (os : Os) : World :=
  let w0 := World.holding Tryd.prog os ⟨#[], #[], []⟩
  { w0 with heap := w0.heap.modify 0 fun
      | .cells _ t frozen => .cells #[.iface 123 (.agg #[.pointer (some ⟨1, 59, none⟩)])] t frozen
      | o => o }
theorem laidWorld_met (os : Os) (args : Array Value) : laidMetH Tryd.prog [("errors.errorType", Rows.laid_errors_errorType)] ((laidWorld os).forCall (fun _ _ => 0) ⟨#[], args, []⟩).memory :=
  laidMetH_of_parts (laidMet_nil _ _) (by kernel_rfl)
end Go.Proofs.YtckmobpjdpjocaaDoor

namespace Go.Proofs.YtckmobpjdpjocaaDoor
open Go.RowKit

set_option maxRecDepth 100000 in
set_option maxHeartbeats 4000000 in
theorem shows_wrong (key : List UInt8) (A : Option Addr) (n c : Nat) (b : List UInt8) (w : World) (hk : key.length = 16) (ha : Bs w w.heap.size A n c b) (hE : Ety w) (h : wrongL b) (hm : n ≤ 500) :
    Calls Tryd.prog 4 #[.agg (cells8 key).toArray, .slice A n c] w fun x w' => x = .returned (.bool true) ∧ Below w.heap.size w w' := by
  have HA : Kp _ := ⟨ha⟩
  have HE0 : Kp _ := ⟨hE⟩
  have HK : Kp _ := ⟨hk⟩
  have HKl : Kp ((cells8 key).length = 16) := ⟨by rw [cells8_length]; exact hk⟩
  have hn2 := ha.cap
  have hn3 := ha.le
  have hnI : (n : Int) ≤ 500 := by omega
  clear ha hE hk
  go_enter Tryd.func4, Tryd.ntmps4
  go_wp2_with (with_reducible refine wpList_box (o := ⟨some 2, _, _, _, _, _⟩) rfl (.tmp 0) rfl rfl ?_)
  intro w1 hk1 hb1 hs1
  have HK1 : Kp _ := ⟨hk1⟩
  have HA1 : Kp _ := ⟨HA.out.next hb1 (Nat.le_refl _)⟩
  have HE : Kp _ := ⟨HE0.out.next hb1⟩
  have hB := hb1
  clear hb1 HE0
  clear hk1 hs1 HA
  go_wp2_with (with_reducible refine wpList_loadAll (o := ⟨some 20, _, _, _, _, _⟩) rwKey rfl (.tmp 2) rfl rfl HK1.out HKl.out ?_)
  refine (show_bad key A n c b w1 HA1.out h HE.out).mono ?_
  rintro x w2 ⟨rfl, hb2⟩
  replace HK1 : Kp _ := ⟨HK1.out.below hb2 HK1.out.lt⟩
  replace HA1 : Kp _ := ⟨HA1.out.next hb2 (Nat.le_refl _)⟩
  replace HE : Kp _ := ⟨HE.out.next hb2⟩
  replace hB := hB.trans (hb2.mono hB.size)
  clear hb2
  go_wp2_with (with_reducible refine wpList_loadAll (o := ⟨some 26, _, _, _, _, _⟩) rwKey rfl (.tmp 2) rfl rfl HK1.out HKl.out ?_)
  refine (refnew_any key w2 HK.out).mono ?_
  rintro x w3 ⟨KA, kc, BA, bc, rfl, hci, hb3⟩
  replace HA1 : Kp _ := ⟨HA1.out.next hb3 (Nat.le_refl _)⟩
  replace HE : Kp _ := ⟨HE.out.next hb3⟩
  have HC : Kp _ := ⟨hci⟩
  replace hB := hB.trans (hb3.mono hB.size)
  clear hb3 hci HK1
  go_wp2_with fail
  refine (refshow_bad _ _ A n c b w3 HA1.out h).mono ?_
  rintro x w4 ⟨rfl, hb4⟩
  replace HA1 : Kp _ := ⟨HA1.out.next hb4 (Nat.le_refl _)⟩
  replace HE : Kp _ := ⟨HE.out.next hb4⟩
  replace hB := hB.trans (hb4.mono hB.size)
  clear hb4 HC
  go_wp2_with fail
  refine (when_bad A n c b w4 HA1.out h HE.out).mono ?_
  rintro x w5 ⟨rfl, hb5⟩
  replace HA1 : Kp _ := ⟨HA1.out.next hb5 (Nat.le_refl _)⟩
  replace hB := hB.trans (hb5.mono hB.size)
  clear hb5 HE
  go_wp2_with fail
  refine (refwhen_bad A n c b w5 HA1.out h).mono ?_
  rintro x w6 ⟨rfl, rfl⟩
  go_wp2_with fail
  refine (same_any none none 0 0 0 0 [] [] w5 0 0 (Bs.zero _ _) (Bs.zero _ _)).mono ?_
  rintro x w7 ⟨rfl, rfl⟩
  go_wp2_with fail
  refine (known_any w5).mono ?_
  rintro x w8 ⟨rfl, hb8⟩
  replace hB := hB.trans (hb8.mono hB.size)
  clear hb8
  go_wp2
  go_ret
  exact ⟨rfl, hB⟩
set_option maxRecDepth 100000 in
set_option maxHeartbeats 4000000 in
theorem shows_right (key : List UInt8) (A : Option Addr) (n c : Nat) (b : List UInt8) (w : World) (hk : key.length = 16) (ha : Bs w w.heap.size A n c b) (hE : Ety w) (h : ¬ wrongL b) (hm : n ≤ 500) :
    Calls Tryd.prog 4 #[.agg (cells8 key).toArray, .slice A n c] w fun x w' => x = .returned (.bool true) ∧ Below w.heap.size w w' := by
  have HA : Kp _ := ⟨ha⟩
  have HE0 : Kp _ := ⟨hE⟩
  have HK : Kp _ := ⟨hk⟩
  have HKl : Kp ((cells8 key).length = 16) := ⟨by rw [cells8_length]; exact hk⟩
  have hn2 := ha.cap
  have hn3 := ha.le
  have hnI : (n : Int) ≤ 500 := by omega
  clear ha hE hk
  go_enter Tryd.func4, Tryd.ntmps4
  go_wp2_with (with_reducible refine wpList_box (o := ⟨some 2, _, _, _, _, _⟩) rfl (.tmp 0) rfl rfl ?_)
  intro w1 hk1 hb1 hs1
  have HK1 : Kp _ := ⟨hk1⟩
  have HA1 : Kp _ := ⟨HA.out.next hb1 (Nat.le_refl _)⟩
  have HE : Kp _ := ⟨HE0.out.next hb1⟩
  have hB := hb1
  clear hb1 HE0
  clear hk1 hs1 HA
  go_wp2_with (with_reducible refine wpList_loadAll (o := ⟨some 20, _, _, _, _, _⟩) rwKey rfl (.tmp 2) rfl rfl HK1.out HKl.out ?_)
  refine (show_any key A n c b w1 HK.out HA1.out h).mono ?_
  rintro x w2 ⟨A2, c2, rfl, hx2, hb2⟩
  replace HK1 : Kp _ := ⟨HK1.out.below hb2 HK1.out.lt⟩
  replace HA1 : Kp _ := ⟨HA1.out.next hb2 (Nat.le_refl _)⟩
  have HX : Kp _ := ⟨hx2⟩
  replace hB := hB.trans (hb2.mono hB.size)
  clear hb2 hx2 HE
  go_wp2_with (with_reducible refine wpList_loadAll (o := ⟨some 26, _, _, _, _, _⟩) rwKey rfl (.tmp 2) rfl rfl HK1.out HKl.out ?_)
  refine (refnew_any key w2 HK.out).mono ?_
  rintro x w3 ⟨KA, kc, BA, bc, rfl, hci, hb3⟩
  replace HA1 : Kp _ := ⟨HA1.out.next hb3 (Nat.le_refl _)⟩
  replace HX : Kp _ := ⟨HX.out.next hb3 (Nat.le_refl _)⟩
  have HC : Kp _ := ⟨hci⟩
  replace hB := hB.trans (hb3.mono hB.size)
  clear hb3 hci HK1
  go_wp2_with fail
  refine (refshow_any KA kc BA bc key A n c b w3 HC.out HA1.out h).mono ?_
  rintro x w4 ⟨A4, c4, rfl, hx4, hb4⟩
  replace HA1 : Kp _ := ⟨HA1.out.next hb4 (Nat.le_refl _)⟩
  replace HX : Kp _ := ⟨HX.out.next hb4 (Nat.le_refl _)⟩
  have HY : Kp _ := ⟨hx4⟩
  replace hB := hB.trans (hb4.mono hB.size)
  clear hb4 hx4 HC
  obtain ⟨X, hX⟩ : ∃ X, X = showL key b := ⟨_, rfl⟩
  rw [← hX] at HX HY
  clear hX
  go_wp2_with fail
  refine (when_any A n c b w4 HA1.out h).mono ?_
  rintro x w5 ⟨rfl, hb5⟩
  replace HA1 : Kp _ := ⟨HA1.out.next hb5 (Nat.le_refl _)⟩
  replace HX : Kp _ := ⟨HX.out.next hb5 (Nat.le_refl _)⟩
  replace HY : Kp _ := ⟨HY.out.next hb5 (Nat.le_refl _)⟩
  replace hB := hB.trans (hb5.mono hB.size)
  clear hb5
  go_wp2_with fail
  refine (refwhen_any A n c b w5 HA1.out h).mono ?_
  rintro x w6 ⟨rfl, hb6⟩
  replace HA1 : Kp _ := ⟨HA1.out.next hb6 (Nat.le_refl _)⟩
  replace HX : Kp _ := ⟨HX.out.next hb6 (Nat.le_refl _)⟩
  replace HY : Kp _ := ⟨HY.out.next hb6 (Nat.le_refl _)⟩
  replace hB := hB.trans (hb6.mono hB.size)
  clear hb6
  generalize getN (b.take 8) = N1 at *
  generalize getN ((b.drop 8).take 4) = N2 at *
  go_wp2_with fail
  refine (same_any A2 A4 256 c2 256 c4 X X w6 _ _ HX.out HY.out).mono ?_
  rw [beq_self_eq_true]
  rintro x w7 ⟨rfl, rfl⟩
  clear HX HY
  go_wp2_with fail
  refine (known_any w6).mono ?_
  rintro x w8 ⟨rfl, hb8⟩
  replace hB := hB.trans (hb8.mono hB.size)
  clear hb8
  go_wp2
  go_ret
  exact ⟨rfl, hB⟩
set_option maxRecDepth 100000 in
set_option maxHeartbeats 4000000 in
theorem shows_big (key : List UInt8) (A : Option Addr) (n c : Nat) (b : List UInt8) (w : World) (hk : key.length = 16) (ha : Bs w w.heap.size A n c b) (hE : Ety w) (hm : 500 < n) :
    Calls Tryd.prog 4 #[.agg (cells8 key).toArray, .slice A n c] w fun x w' => x = .returned (.bool true) ∧ Below w.heap.size w w' := by
  have HA : Kp _ := ⟨ha⟩
  have HE0 : Kp _ := ⟨hE⟩
  have HK : Kp _ := ⟨hk⟩
  have HKl : Kp ((cells8 key).length = 16) := ⟨by rw [cells8_length]; exact hk⟩
  have hn2 := ha.cap
  have hn3 := ha.le
  have hnI : (500 : Int) < (n : Int) := by omega
  clear ha hE hk
  go_enter Tryd.func4, Tryd.ntmps4
  go_wp2_with (with_reducible refine wpList_box (o := ⟨some 2, _, _, _, _, _⟩) rfl (.tmp 0) rfl rfl ?_)
  intro w1 hk1 hb1 hs1
  have HK1 : Kp _ := ⟨hk1⟩
  have HA1 : Kp _ := ⟨HA.out.next hb1 (Nat.le_refl _)⟩
  clear hk1 hs1 HA
  have hB := hb1
  clear hb1
  go_wp2_with fail
  refine (known_any w1).mono ?_
  rintro x w8 ⟨rfl, hb8⟩
  replace hB := hB.trans (hb8.mono hB.size)
  clear hb8
  go_wp2
  go_ret
  exact ⟨rfl, hB⟩
theorem law_blockShows (key : List UInt8) (A : Option Addr) (n c : Nat) (b : List UInt8) (w : World) (hk : key.length = 16) (ha : Bs w w.heap.size A n c b ∧ c ≤ 140737488351232) (hE : Ety w) :
    Calls Tryd.prog 4 #[.agg (cells8 key).toArray, .slice A n c] w fun x w' => x = .returned (.bool true) ∧ Below w.heap.size w w' := by
  by_cases h2 : n ≤ 500
  · by_cases h : wrongL b
    · exact shows_wrong key A n c b w hk ha.1 hE h h2
    · exact shows_right key A n c b w hk ha.1 hE h h2
  · exact shows_big key A n c b w hk ha.1 hE (by omega)
end Go.Proofs.YtckmobpjdpjocaaDoor

namespace Go.Proofs.YtckmobpjdpjocaaDoor
open Go.RowKit

set_option maxRecDepth 100000 in
set_option maxHeartbeats 4000000 in
theorem keys_wrong (key : List UInt8) (A : Option Addr) (n c : Nat) (b : List UInt8) (w : World) (hk : key.length = 16) (ha : Bs w w.heap.size A n c b) (hE : Ety w) (h : wrongL b) (hm : n ≤ 500) :
    Calls Tryd.prog 7 #[.agg (cells8 key).toArray, .slice A n c] w fun x w' => x = .returned (.bool true) ∧ Below w.heap.size w w' := by
  have HA : Kp _ := ⟨ha⟩
  have HE0 : Kp _ := ⟨hE⟩
  have HK : Kp _ := ⟨hk⟩
  have HKl : Kp ((cells8 key).length = 16) := ⟨by rw [cells8_length]; exact hk⟩
  have hn2 := ha.cap
  have hn3 := ha.le
  have hnI : (n : Int) ≤ 500 := by omega
  clear ha hE hk
  go_enter Tryd.func7, Tryd.ntmps7
  go_wp2_with (with_reducible refine wpList_box (o := ⟨some 2, _, _, _, _, _⟩) rfl (.tmp 0) rfl rfl ?_)
  intro w1 hk1 hb1 hs1
  have HK1 : Kp _ := ⟨hk1⟩
  have HA1 : Kp _ := ⟨HA.out.next hb1 (Nat.le_refl _)⟩
  have HE : Kp _ := ⟨HE0.out.next hb1⟩
  have hB := hb1
  clear hb1 HE0
  clear hk1 hs1 HA
  go_wp2_with fail
  refine (when_bad A n c b w1 HA1.out h HE.out).mono ?_
  rintro x w2 ⟨rfl, hb2⟩
  replace HK1 : Kp _ := ⟨HK1.out.below hb2 HK1.out.lt⟩
  replace HA1 : Kp _ := ⟨HA1.out.next hb2 (Nat.le_refl _)⟩
  replace HE : Kp _ := ⟨HE.out.next hb2⟩
  replace hB := hB.trans (hb2.mono hB.size)
  clear hb2
  go_wp2_with (with_reducible refine wpList_loadAll (o := ⟨some 23, _, _, _, _, _⟩) rwKey rfl (.tmp 2) rfl rfl HK1.out HKl.out ?_)
  refine (show_bad key A n c b w2 HA1.out h HE.out).mono ?_
  rintro x w3 ⟨rfl, hb3⟩
  replace hB := hB.trans (hb3.mono hB.size)
  clear hb3 HK1 HA1 HE
  go_wp2_with fail
  refine (known_any w3).mono ?_
  rintro x w8 ⟨rfl, hb8⟩
  replace hB := hB.trans (hb8.mono hB.size)
  clear hb8
  go_wp2
  go_ret
  exact ⟨rfl, hB⟩
set_option maxRecDepth 100000 in
set_option maxHeartbeats 4000000 in
theorem keys_right (key : List UInt8) (A : Option Addr) (n c : Nat) (b : List UInt8) (w : World) (hk : key.length = 16) (ha : Bs w w.heap.size A n c b) (hE : Ety w) (h : ¬ wrongL b) (hm : n ≤ 500) :
    Calls Tryd.prog 7 #[.agg (cells8 key).toArray, .slice A n c] w fun x w' => x = .returned (.bool true) ∧ Below w.heap.size w w' := by
  have HA : Kp _ := ⟨ha⟩
  have HE0 : Kp _ := ⟨hE⟩
  have HK : Kp _ := ⟨hk⟩
  have HKl : Kp ((cells8 key).length = 16) := ⟨by rw [cells8_length]; exact hk⟩
  have hn2 := ha.cap
  have hn3 := ha.le
  have hnI : (n : Int) ≤ 500 := by omega
  clear ha hE hk
  go_enter Tryd.func7, Tryd.ntmps7
  go_wp2_with (with_reducible refine wpList_box (o := ⟨some 2, _, _, _, _, _⟩) rfl (.tmp 0) rfl rfl ?_)
  intro w1 hk1 hb1 hs1
  have HK1 : Kp _ := ⟨hk1⟩
  have HA1 : Kp _ := ⟨HA.out.next hb1 (Nat.le_refl _)⟩
  have HE : Kp _ := ⟨HE0.out.next hb1⟩
  have hB := hb1
  clear hb1 HE0
  clear hk1 hs1 HA
  go_wp2_with fail
  refine (when_any A n c b w1 HA1.out h).mono ?_
  rintro x w2 ⟨rfl, hb2⟩
  replace HK1 : Kp _ := ⟨HK1.out.below hb2 HK1.out.lt⟩
  replace HA1 : Kp _ := ⟨HA1.out.next hb2 (Nat.le_refl _)⟩
  replace hB := hB.trans (hb2.mono hB.size)
  clear hb2 HE
  have HHS : Kp _ := ⟨hide_show key b h⟩
  have hbl : b.length = 272 := Classical.not_not.1 fun h3 => h (.inl h3)
  have HL4 : Kp (((b.drop 8).take 4).length = 4) := ⟨by simp [hbl]⟩
  have HL8 : Kp ((b.take 8).length = 8) := ⟨by simp [hbl]⟩
  have HLT : Kp (getN (b.take 8) < 18446744073709551616 ∧ getN ((b.drop 8).take 4) < 4294967296) := ⟨⟨by have := getN_lt (b.take 8); rw [HL8.out] at this; exact this, by have := getN_lt ((b.drop 8).take 4); rw [HL4.out] at this; exact this⟩⟩
  clear hbl
  generalize getN (b.take 8) = N1 at *
  generalize getN ((b.drop 8).take 4) = N2 at *
  go_wp2_with (with_reducible refine wpList_loadAll (o := ⟨some 23, _, _, _, _, _⟩) rwKey rfl (.tmp 2) rfl rfl HK1.out HKl.out ?_)
  refine (show_any key A n c b w2 HK.out HA1.out h).mono ?_
  rintro x w3 ⟨A3, c3, rfl, hx3, hb3⟩
  replace HK1 : Kp _ := ⟨HK1.out.below hb3 HK1.out.lt⟩
  replace HA1 : Kp _ := ⟨HA1.out.next hb3 (Nat.le_refl _)⟩
  have HX : Kp _ := ⟨hx3⟩
  replace hB := hB.trans (hb3.mono hB.size)
  clear hb3 hx3
  go_wp2_with (with_reducible refine wpList_loadAll (o := ⟨some 48, _, _, _, _, _⟩) rwKey rfl (.tmp 2) rfl rfl HK1.out HKl.out ?_)
  refine (hide_any key N1 N2 A3 256 c3 (showL key b) w3 HK.out HLT.out.1 HLT.out.2 (Nat.le_refl _) HX.out).mono ?_
  rintro x w4 ⟨A4, c4, rfl, hx4, hb4⟩
  replace HA1 : Kp _ := ⟨HA1.out.next hb4 (Nat.le_refl _)⟩
  rw [HHS.out] at hx4
  have HY : Kp _ := ⟨hx4⟩
  replace hB := hB.trans (hb4.mono hB.size)
  clear hb4 hx4 HX HK1 HHS HLT
  go_wp2_with fail
  refine (same_any A4 A 272 c4 n c b b w4 _ _ HY.out HA1.out).mono ?_
  rw [beq_self_eq_true]
  rintro x w7 ⟨rfl, rfl⟩
  clear HY HA1
  go_wp2_with fail
  refine (known_any w4).mono ?_
  rintro x w8 ⟨rfl, hb8⟩
  replace hB := hB.trans (hb8.mono hB.size)
  clear hb8
  go_wp2
  go_ret
  exact ⟨rfl, hB⟩
set_option maxRecDepth 100000 in
set_option maxHeartbeats 4000000 in
theorem keys_big (key : List UInt8) (A : Option Addr) (n c : Nat) (b : List UInt8) (w : World) (hk : key.length = 16) (ha : Bs w w.heap.size A n c b) (hE : Ety w) (hm : 500 < n) :
    Calls Tryd.prog 7 #[.agg (cells8 key).toArray, .slice A n c] w fun x w' => x = .returned (.bool true) ∧ Below w.heap.size w w' := by
  have HA : Kp _ := ⟨ha⟩
  have HE0 : Kp _ := ⟨hE⟩
  have HK : Kp _ := ⟨hk⟩
  have HKl : Kp ((cells8 key).length = 16) := ⟨by rw [cells8_length]; exact hk⟩
  have hn2 := ha.cap
  have hn3 := ha.le
  have hnI : (500 : Int) < (n : Int) := by omega
  clear ha hE hk
  go_enter Tryd.func7, Tryd.ntmps7
  go_wp2_with (with_reducible refine wpList_box (o := ⟨some 2, _, _, _, _, _⟩) rfl (.tmp 0) rfl rfl ?_)
  intro w1 hk1 hb1 hs1
  have HK1 : Kp _ := ⟨hk1⟩
  have HA1 : Kp _ := ⟨HA.out.next hb1 (Nat.le_refl _)⟩
  clear hk1 hs1 HA
  have hB := hb1
  clear hb1
  go_wp2_with fail
  refine (known_any w1).mono ?_
  rintro x w8 ⟨rfl, hb8⟩
  replace hB := hB.trans (hb8.mono hB.size)
  clear hb8
  go_wp2
  go_ret
  exact ⟨rfl, hB⟩
theorem law_blockKeys (key : List UInt8) (A : Option Addr) (n c : Nat) (b : List UInt8) (w : World) (hk : key.length = 16) (ha : Bs w w.heap.size A n c b ∧ c ≤ 140737488351232) (hE : Ety w) :
    Calls Tryd.prog 7 #[.agg (cells8 key).toArray, .slice A n c] w fun x w' => x = .returned (.bool true) ∧ Below w.heap.size w w' := by
  by_cases h2 : n ≤ 500
  · by_cases h : wrongL b
    · exact keys_wrong key A n c b w hk ha.1 hE h h2
    · exact keys_right key A n c b w hk ha.1 hE h h2
  · exact keys_big key A n c b w hk ha.1 hE (by omega)
end Go.Proofs.YtckmobpjdpjocaaDoor
