/- The document's world: told.
   The document's world: takes, with.
   The document's world: over.
   The document's world: Bump.
   The contracts of the document's Read and Look of a world. -/
import Derived.Test.YtpbpegoobgfjcaaG10
import Derived.Deep.LoopGhost
import Derived.StillTactics
import Derived.Deep.RegionHeld3
namespace Go.Proofs.Ytpbpegoobgfjcaa
open Go.RowKit
def toldT (t : Wd) : Wd := { t with reads := t.reads + 1, lies := fun z => if z = (t.reads : Int) then none else t.lies z }
section
variable {M : Nat → Prop} {w : World} {a : Ta} {t : Wd}
theorem TvM.told (h : TvM w M a t) : TvM w M a (toldT t) := by
  obtain ⟨hs, L, hL⟩ := h.lies
  refine ⟨h.slots, h.seals, ⟨hs, L, hL.row, hL.lie, fun z hz => ?_⟩, h.trace, h.pow, h.pmax, h.big, h.num⟩
  have hz' : (t.reads : Int) + 1 ≤ z := by simpa [toldT] using hz
  rw [hL.last z (by omega)]
  simp only [toldT]
  rw [if_neg (by omega)]
set_option maxRecDepth 100000 in
set_option maxHeartbeats 2000000 in
theorem rtold_any (h : TvM w M a t) (hreads : t.reads ≤ 1000000) (A : Option Addr) (n c : Nat) (l : List UInt8) (hb : BsM w M A n c l) :
    Calls Try.prog 55 #[.agg (tvL a t).toArray, .slice A n c] w fun e w' => ∃ A' n' c', e = .returned (.tuple #[.agg (tvL a (toldT t)).toArray, .slice A' n' c']) ∧ Below w.heap.size w w' ∧ TvM w' M a (toldT t) ∧ BsM w' M A' n' c' (toldL t l) := by
  obtain ⟨hs, L, hL⟩ := h.lies
  have hl := hL.row.len
  rw [hdCells_length] at hl
  have hlL := hL.lie.len
  have HL : Kp _ := ⟨hL⟩
  have H : Kp _ := ⟨h⟩
  have HB : Kp (BsM w M A n c ((lastLie (L.take 0) t.reads).getD l)) := ⟨hb⟩
  have hln := hL.row.le
  have HN : Kp (hs.length = a.ln ∧ L.length = a.ln) := ⟨by omega, by omega⟩
  clear h hb hL hl hlL
  go_enter Try.func55, Try.ntmps55
  go_wp2_with (with_reducible refine wpList_box (o := ⟨some 2, _, _, _, _, _⟩) (cs := tvL a t) rfl (.tmp 0) rfl rfl ?_)
  intro w1 hk1 hb1 hs1
  have HK1 : Kp _ := ⟨hk1⟩
  clear hk1 hs1
  go_wp2_with (with_reducible refine wpList_alloc (o := ⟨some 4, _, _, _, _, _⟩) tyT rfl rfl ?_)
  intro w2 hk2 hb2 hs2
  have hl1 : w.heap.size < w1.heap.size := HK1.out.lt
  have HI2 : Kp (Blk w2 w.heap.size 42 (tvL a t) ∧ Blk w2 w1.heap.size 42 zeroT' ∧ Below w.heap.size w w2) := ⟨⟨HK1.out.below hb2 HK1.out.lt, hk2, hb1.trans (hb2.mono hb1.size)⟩⟩
  clear hk2 hb2 hs2 HK1 hb1
  generalize w1.heap.size = g1 at *
  go_wp2
  go_loopg [1, 6] a.ln (fun gk v1 v6 wr => ∃ i : Nat, i + gk = a.ln ∧ v6 = .int .i64 i ∧ Kp (Blk wr w.heap.size 42 (tvL a t) ∧ Blk wr g1 42 zeroT' ∧ Below w.heap.size w wr) ∧ ∃ A' n' c', v1 = .slice A' n' c' ∧ Kp (BsM w M A' n' c' ((lastLie (L.take i) t.reads).getD l)))
  case atStart => exact ⟨0, by omega, rfl, HI2, A, n, c, rfl, HB⟩
  case round =>
    clear HI2 HB
    obtain ⟨i, hi, rfl, HI, A', n', c', rfl, HBi⟩ := hrel
    have e4 : wr.cell? ⟨w.heap.size, 4, none⟩ = some (.slice a.lA a.ln a.lc) := HI.out.1.cell? 4
    have e5 : wr.cell? ⟨w.heap.size, 5, none⟩ = some (.int .i64 t.reads) := HI.out.1.cell? 5
    cases gk with
    | zero =>
      have hlt : ¬ ((i : Int) < (a.ln : Int)) := by omega
      have f5 := HI.out.1.frozen 5
      have hw : IntKind.i64.wrap ((t.reads : Int) + 1) = (t.reads : Int) + 1 := by rw [IntKind.wrap_i64]; omega
      have hL : Kp (toldL t l = (lastLie (L.take i) t.reads).getD l) := ⟨by
        rw [List.take_of_length_le (by have := HN.out.2; omega), HL.out.last _ (Int.le_refl _)]; rfl⟩
      have HK5 : Kp (Blk (wr.setCell ⟨w.heap.size, 5, none⟩ (.int .i64 ((t.reads : Int) + 1))) w.heap.size 42 (tvL a (toldT t))) := ⟨HI.out.1.set 5 _⟩
      have HR5 : Kp (Blk (wr.setCell ⟨w.heap.size, 5, none⟩ (.int .i64 ((t.reads : Int) + 1))) g1 42 zeroT') := ⟨HI.out.2.1.other (by show g1 ≠ w.heap.size; omega) _⟩
      have HB5 : Kp (Below w.heap.size w (wr.setCell ⟨w.heap.size, 5, none⟩ (.int .i64 ((t.reads : Int) + 1)))) := ⟨HI.out.2.2.setCell (Nat.le_refl _) _⟩
      have HZ : Kp (zeroT'.length = 10) := ⟨rfl⟩
      have HL10 : Kp _ := ⟨tvL_length a (toldT t)⟩
      have HO10 : Kp _ := ⟨tvL_one a (toldT t)⟩
      have hg1 : w.heap.size < g1 := hl1
      clear HI
      go_wp2_with (first
        | (with_reducible refine wpList_loadAll (o := ⟨some 33, _, _, _, _, _⟩) rwT rfl (.tmp 2) rfl rfl HK5.out HL10.out ?_)
        | (with_reducible refine wpList_storeAll (o := ⟨none, _, _, _, _, _⟩) (vs := tvL a (toldT t)) rwT rfl (.tmp 4) (.tmp 33) rfl rfl HR5.out HZ.out HL10.out HO10.out rfl ?_))
      intro w6 hk6 ho6
      have HK6 : Kp _ := ⟨hk6⟩
      clear hk6
      go_wp2
      refine ret_arrB rfl rwT rfl rfl HK6.out (tvL_length _ _) rfl ?_
      have hB6 : Below w.heap.size w w6 := HB5.out.trans (ho6.below (by omega))
      exact ⟨A', n', c', rfl, hB6, (H.out.below hB6).told, by rw [hL.out]; exact HBi.out.below hB6⟩
    | succ g2 =>
      have hlt : (i : Int) < (a.ln : Int) := by omega
      have hin : i < a.ln := by omega
      have hih : i < hs.length := by have := HN.out.1; omega
      have hiL : i < L.length := by have := HN.out.2; omega
      obtain ⟨b, o, hA, hc⟩ := HL.out.row.at (by omega)
      obtain ⟨b', o', hA', hbl, _, _⟩ := HL.out.row.cells (by omega)
      obtain ⟨h1, h2⟩ := hdCells_at hs i hih
      have hbb : b < w.heap.size := by rw [hA] at hA'; have := Option.some.inj hA'; injection this with e9 _ _; rw [e9]; exact hbl
      have q0 : wr.cell? ⟨b, o + i * 2, none⟩ = some (.int .i64 (hs[i]'hih).1) := (HI.out.2.2.cell (p := ⟨b, _, none⟩) hbb).trans (hc _ _ h1)
      have q1 : wr.cell? ⟨b, o + i * 2 + 1, none⟩ = some (.slice (hs[i]'hih).2.1 (hs[i]'hih).2.2.1 (hs[i]'hih).2.2.2) := by
        rw [Nat.add_assoc]; exact (HI.out.2.2.cell (p := ⟨b, _, none⟩) hbb).trans (hc _ _ h2)
      have he := HL.out.lie.each i hih
      have HE : Kp _ := ⟨he⟩
      have htk : Kp (L.take (i + 1) = L.take i ++ [L[i]'hiL]) := ⟨by rw [List.take_append_getElem hiL]⟩
      have hw1 : IntKind.i64.wrap ((i : Int) + 1) = ((i + 1 : Nat) : Int) := by rw [IntKind.wrap_i64]; omega
      have HI' : Kp (Blk wr.drew w.heap.size 42 (tvL a t) ∧ Blk wr.drew g1 42 zeroT' ∧ Below w.heap.size w wr.drew) := ⟨⟨HI.out.1.drew, HI.out.2.1.drew, HI.out.2.2.drew⟩⟩
      generalize hx : hs[i]'hih = x at *
      obtain ⟨z, B, p, q⟩ := x
      simp only at q0 q1 HE
      rw [hA] at e4
      clear he h1 h2 hc hA hA' hbl HI
      by_cases hz : z = (t.reads : Int)
      · have hzb : (z == (t.reads : Int)) = true := by rw [beq_iff_eq]; exact hz
        have HZ : Kp _ := ⟨hz⟩
        clear hz
        go_wp2_with fail
        go_still (by kernel_rfl)
        change Exit.then _ _ _ _ wr.drew
        go_wp2
        go_roundg g2
        case measure => omega
        case rel => exact ⟨i + 1, by omega, by go_num, HI', B, p, q, rfl, ⟨by rw [htk.out, lastLie_snoc, if_pos (by rw [← HE.out.1]; exact HZ.out)]; exact HE.out.2⟩⟩
      · have hzb : (z == (t.reads : Int)) = false := by rw [beq_eq_false_iff_ne]; exact hz
        have HZ : Kp _ := ⟨hz⟩
        clear hz
        go_wp2_with fail
        go_still (by kernel_rfl)
        change Exit.then _ _ _ _ wr.drew
        go_wp2
        go_roundg g2
        case measure => omega
        case rel => exact ⟨i + 1, by omega, by go_num, HI', A', n', c', rfl, ⟨by rw [htk.out, lastLie_snoc, if_neg (by rw [← HE.out.1]; exact HZ.out)]; exact HBi.out⟩⟩
end
end Go.Proofs.Ytpbpegoobgfjcaa

namespace Go.Proofs.Ytpbpegoobgfjcaa
open Go.RowKit
section
variable {M : Nat → Prop} {w : World} {a : Ta} {t : Wd}
def takesA (a : Ta) (t : Wd) (n : Nat) : Ta := { a with pw := if t.lim = true then a.pw - layK t n else a.pw }
theorem TvM.takes (h : TvM w M a t) (n : Nat) : TvM w M (takesA a t n) (layW t n) := by
  obtain ⟨q1, q2, q3, q4, q5, q6, q7, q8, q9, q10⟩ := layW_same t n
  have hp := h.pow
  have hm := h.pmax
  unfold layW takesA layK at *
  cases hl : t.lim
  · simp only [Bool.false_eq_true, if_false]
    exact ⟨h.slots, h.seals, h.lies, h.trace, (fun h9 => by rw [hl] at h9; cases h9), hm, h.big, h.num⟩
  · have hp' := hp hl
    simp only [if_true]
    split
    · exact ⟨h.slots, h.seals, h.lies, h.trace, (fun _ => by show a.pw - min n t.left = t.left - n; omega), by show a.pw - _ ≤ _; omega, h.big, h.num⟩
    · exact ⟨h.slots, h.seals, h.lies, h.trace, (fun _ => by show a.pw - min n t.left = 0; omega), by show a.pw - _ ≤ _; omega, h.big, h.num⟩
set_option maxRecDepth 100000 in
set_option maxHeartbeats 2000000 in
theorem rtakes_any (h : TvM w M a t) (n : Nat) (hn : n ≤ 4294967296) :
    Calls Try.prog 58 #[.agg (tvL a t).toArray, .int .i64 (n : Int)] w fun e w' => e = .returned (.tuple #[.agg (tvL (takesA a t n) (layW t n)).toArray, .int .i64 (layK t n : Int)]) ∧ Below w.heap.size w w' := by
  have hp := h.pow
  have hpm := h.pmax
  clear h
  have HZ : Kp (zeroT'.length = 10) := ⟨rfl⟩
  have HL10 : Kp _ := ⟨tvL_length (takesA a t n) (layW t n)⟩
  have HO10 : Kp _ := ⟨tvL_one (takesA a t n) (layW t n)⟩
  cases hlim : t.lim
  · have HE : Kp (takesA a t n = a ∧ layW t n = t ∧ layK t n = n) := ⟨by
      unfold takesA layW layK
      simp [hlim]⟩
    rw [HE.out.1, HE.out.2.1] at HL10 HO10
    rw [HE.out.1, HE.out.2.1, HE.out.2.2]
    go_enter Try.func58, Try.ntmps58
    go_wp2_with (with_reducible refine wpList_box (o := ⟨some 2, _, _, _, _, _⟩) (cs := tvL a t) rfl (.tmp 0) rfl rfl ?_)
    intro w1 hk1 hb1 hs1
    have HK1 : Kp _ := ⟨hk1⟩
    clear hk1 hs1
    go_wp2_with (with_reducible refine wpList_alloc (o := ⟨some 4, _, _, _, _, _⟩) tyT rfl rfl ?_)
    intro w2 hk2 hb2 hs2
    have hl1 : w.heap.size < w1.heap.size := HK1.out.lt
    have HK2 : Kp _ := ⟨HK1.out.below hb2 HK1.out.lt⟩
    have HR2 : Kp _ := ⟨hk2⟩
    have hB2 : Below w.heap.size w w2 := hb1.trans (hb2.mono hb1.size)
    have e6 : w2.cell? ⟨w.heap.size, 6, none⟩ = some (.bool false) := by rw [← hlim]; exact HK2.out.cell? 6
    clear hk2 hb2 hs2 HK1 hb1
    go_wp2_with (first
      | (with_reducible refine wpList_loadAll (o := ⟨some 10, _, _, _, _, _⟩) rwT rfl (.tmp 2) rfl rfl HK2.out HL10.out ?_)
      | (with_reducible refine wpList_storeAll (o := ⟨none, _, _, _, _, _⟩) (vs := tvL a t) rwT rfl (.tmp 4) (.tmp 10) rfl rfl HR2.out HZ.out HL10.out HO10.out rfl ?_))
    intro w6 hk6 ho6
    have HK6 : Kp _ := ⟨hk6⟩
    clear hk6
    go_wp2
    refine ret_arrB rfl rwT rfl rfl HK6.out (tvL_length _ _) rfl ?_
    exact ⟨rfl, hB2.trans (ho6.below (by omega))⟩
  · have hp' := hp hlim
    obtain ⟨N, hN⟩ : ∃ N, N = min n a.pw := ⟨_, rfl⟩
    have HE : Kp (takesA a t n = { a with pw := a.pw - N } ∧ layK t n = N ∧ (layW t n = if n ≤ a.pw then { t with left := t.left - n } else { t with left := 0, lost := true })) := ⟨by
      unfold takesA layW layK
      simp [hlim, hp', hN]⟩
    go_enter Try.func58, Try.ntmps58
    go_wp2_with (with_reducible refine wpList_box (o := ⟨some 2, _, _, _, _, _⟩) (cs := tvL a t) rfl (.tmp 0) rfl rfl ?_)
    intro w1 hk1 hb1 hs1
    have HK1 : Kp _ := ⟨hk1⟩
    clear hk1 hs1
    go_wp2_with (with_reducible refine wpList_alloc (o := ⟨some 4, _, _, _, _, _⟩) tyT rfl rfl ?_)
    intro w2 hk2 hb2 hs2
    have hl1 : w.heap.size < w1.heap.size := HK1.out.lt
    have HI2 : Kp (Blk w2 w.heap.size 42 (tvL { a with pw := a.pw - 0 } t) ∧ Blk w2 w1.heap.size 42 zeroT' ∧ Below w.heap.size w w2) := ⟨⟨HK1.out.below hb2 HK1.out.lt, hk2, hb1.trans (hb2.mono hb1.size)⟩⟩
    have e6 : w2.cell? ⟨w.heap.size, 6, none⟩ = some (.bool true) := by rw [← hlim]; exact HI2.out.1.cell? 6
    clear hk2 hb2 hs2 HK1 hb1
    generalize w1.heap.size = g1 at *
    go_wp2
    go_loopg [6] N (fun gk v6 wr => ∃ i : Nat, i + gk = N ∧ v6 = .int .i64 i ∧ Kp (Blk wr w.heap.size 42 (tvL { a with pw := a.pw - i } t) ∧ Blk wr g1 42 zeroT' ∧ Below w.heap.size w wr))
    case atStart => exact ⟨0, by omega, rfl, HI2⟩
    case round =>
      clear HI2 e6
      obtain ⟨i, hi, rfl, HI⟩ := hrel
      obtain ⟨j, hj⟩ : ∃ j, j = a.pw - i := ⟨_, rfl⟩
      have e7 : wr.cell? ⟨w.heap.size, 7, none⟩ = some (.int .i64 (j : Int)) := by rw [hj]; exact HI.out.1.cell? 7
      have f7 := HI.out.1.frozen 7
      have f8 := HI.out.1.frozen 8
      have e8 : wr.cell? ⟨w.heap.size, 8, none⟩ = some (.bool t.lost) := HI.out.1.cell? 8
      cases gk with
      | zero =>
        have hiN : i = N := by omega
        have hl1' : w.heap.size < g1 := hl1
        by_cases hnp : n ≤ a.pw
        · have hlt : ¬ ((i : Int) < (n : Int)) := by omega
          have HW : Kp (layW t n = { t with left := t.left - n }) := ⟨by rw [HE.out.2.2, if_pos hnp]⟩
          have HT5 : Kp (tvL { a with pw := a.pw - i } t = tvL (takesA a t n) (layW t n)) := ⟨by rw [HE.out.1, HW.out, hiN]; rfl⟩
          have HK5 : Kp (Blk wr w.heap.size 42 (tvL (takesA a t n) (layW t n))) := ⟨by rw [← HT5.out]; exact HI.out.1⟩
          have HK : Kp (layK t n = i) := ⟨by rw [HE.out.2.1, hiN]⟩
          clear hnp hiN hj f7 f8 e8
          go_wp2_with (first
            | (with_reducible refine wpList_loadAll (o := ⟨some 30, _, _, _, _, _⟩) rwT rfl (.tmp 2) rfl rfl HK5.out HL10.out ?_)
            | (with_reducible refine wpList_storeAll (o := ⟨none, _, _, _, _, _⟩) (vs := tvL (takesA a t n) (layW t n)) rwT rfl (.tmp 4) (.tmp 30) rfl rfl HI.out.2.1 HZ.out HL10.out HO10.out rfl ?_))
          intro w6 hk6 ho6
          have HK6 : Kp _ := ⟨hk6⟩
          clear hk6
          go_wp2
          refine ret_arrB rfl rwT rfl rfl HK6.out (tvL_length _ _) rfl ?_
          exact ⟨by rw [HK.out]; rfl, HI.out.2.2.trans (ho6.below (by omega))⟩
        · have hlt : (i : Int) < (n : Int) := by omega
          have hj0 : j = 0 := by omega
          subst hj0
          have HW : Kp (layW t n = { t with left := 0, lost := true }) := ⟨by rw [HE.out.2.2, if_neg hnp]⟩
          have HK5 : Kp (Blk (wr.setCell ⟨w.heap.size, 8, none⟩ (.bool true)) w.heap.size 42 (tvL (takesA a t n) (layW t n))) := ⟨by
            have h9 := HI.out.1.set 8 (.bool true)
            rw [HE.out.1, HW.out, ← hiN]
            exact h9⟩
          have HR5 : Kp (Blk (wr.setCell ⟨w.heap.size, 8, none⟩ (.bool true)) g1 42 zeroT') := ⟨HI.out.2.1.other (by show g1 ≠ w.heap.size; omega) _⟩
          have HB5 : Kp (Below w.heap.size w (wr.setCell ⟨w.heap.size, 8, none⟩ (.bool true))) := ⟨HI.out.2.2.setCell (Nat.le_refl _) _⟩
          have HK : Kp (layK t n = i) := ⟨by rw [HE.out.2.1, hiN]⟩
          clear hnp hiN hj f7 HI
          go_wp2_with (first
            | (with_reducible refine wpList_loadAll (o := ⟨some 30, _, _, _, _, _⟩) rwT rfl (.tmp 2) rfl rfl HK5.out HL10.out ?_)
            | (with_reducible refine wpList_storeAll (o := ⟨none, _, _, _, _, _⟩) (vs := tvL (takesA a t n) (layW t n)) rwT rfl (.tmp 4) (.tmp 30) rfl rfl HR5.out HZ.out HL10.out HO10.out rfl ?_))
          intro w6 hk6 ho6
          have HK6 : Kp _ := ⟨hk6⟩
          clear hk6
          go_wp2
          refine ret_arrB rfl rwT rfl rfl HK6.out (tvL_length _ _) rfl ?_
          exact ⟨by rw [HK.out]; rfl, HB5.out.trans (ho6.below (by omega))⟩
      | succ g2 =>
        have hlt : (i : Int) < (n : Int) := by omega
        have hj0 : (0 : Int) < (j : Int) := by omega
        obtain ⟨j2, hj2⟩ : ∃ j2, j = j2 + 1 := ⟨j - 1, by omega⟩
        have hw1 : IntKind.i64.wrap ((j : Int) - 1) = (j2 : Int) := by rw [IntKind.wrap_i64]; omega
        have hw2 : IntKind.i64.wrap ((i : Int) + 1) = ((i + 1 : Nat) : Int) := by rw [IntKind.wrap_i64]; omega
        have HI' : Kp (Blk (wr.setCell ⟨w.heap.size, 7, none⟩ (.int .i64 (j2 : Int))) w.heap.size 42 (tvL { a with pw := a.pw - (i + 1) } t) ∧ Blk (wr.setCell ⟨w.heap.size, 7, none⟩ (.int .i64 (j2 : Int))) g1 42 zeroT' ∧ Below w.heap.size w (wr.setCell ⟨w.heap.size, 7, none⟩ (.int .i64 (j2 : Int)))) := ⟨by
          have h9 := HI.out.1.set 7 (.int .i64 (j2 : Int))
          have e9 : j2 = a.pw - (i + 1) := by omega
          refine ⟨?_, HI.out.2.1.other (by show g1 ≠ w.heap.size; omega) _, HI.out.2.2.setCell (Nat.le_refl _) _⟩
          rw [e9] at h9 ⊢
          exact h9⟩
        clear hj hj2 HI f8 e8
        go_wp2
        go_roundg g2
        case measure => omega
        case rel => exact ⟨i + 1, by omega, by go_num, HI'⟩
theorem own_blk {base e s n : Nat} {v : Value} {xs : List Value} (h : w.ownsRow base e s v n xs) (hn : 0 < n) : ∃ g cap rest, v = .slice (some ⟨g, 0, none⟩) n cap ∧ base ≤ g ∧ Blk w g e (xs ++ rest) ∧ n ≤ cap ∧ cap ≤ maxLen := by
  rcases h.2 with ⟨_, h'⟩ | ⟨g, cap, cur, h', hb, hg, hnc, hcm, hcs, htake⟩
  · omega
  · refine ⟨g, cap, cur.toList.drop (n * s), h', hb, ⟨?_⟩, hnc, hcm⟩
    rw [← htake, List.take_append_drop]
    simpa using hg
theorem RwM.of_blk {g e s n cap : Nat} {xs rest : List Value} (h : Blk w g e (xs ++ rest)) (hl : xs.length = n * s) (hM : ¬ M g) (h1 : n ≤ cap) (h2 : cap ≤ maxLen) : RwM w M (some ⟨g, 0, none⟩) n cap s xs :=
  ⟨hl, h1, h2, (fun h => by cases h), fun _ => ⟨g, 0, rfl, h.lt, hM, fun j u hu => by
    rw [h.cell? (0 + j), Nat.zero_add, List.getElem?_append_left (List.getElem?_eq_some_iff.1 hu).1]
    exact hu⟩⟩
set_option maxRecDepth 100000 in
set_option maxHeartbeats 1000000 in
theorem rwith_any (hM : ∀ k, M k → k < w.heap.size) (A : Option Addr) (n c : Nat) (vs : List Value) (h : RwM w M A n c 1 vs) (hone : ∀ u ∈ vs, u.oneCell' = true) (hn : n ≤ 1000000) (i : Nat) (hi : i < n) (B : Option Addr) (m d : Nat) :
    Calls Try.prog 59 #[.slice A n c, .int .i64 (i : Int), .slice B m d] w fun e w' => ∃ A' c', e = .returned (.slice A' n c') ∧ Below w.heap.size w w' ∧ RwM w' M A' n c' 1 (vs.set i (.slice B m d)) := by
  have H : Kp _ := ⟨h⟩
  have HO : Kp _ := ⟨hone⟩
  clear h hone
  go_enter Try.func59, Try.ntmps59
  go_wp2_with (at_builtin; refine wpList_appM elS.ty elS.info rfl (by decide) rfl _ _ rfl w.heap.size _ 0 [] rfl (World.ownsRow_nil _ _ _ _) A n c vs rfl H.out HO.out (by simp only [maxLen]; omega) (by omega) (Nat.le_refl _) ?_)
  intro v1 w1 hown1 hb1
  have hl : vs.length = n := by have := H.out.len; omega
  obtain ⟨g, cap, rest, rfl, hg, hk, h1, h2⟩ := own_blk hown1 (by omega)
  have HK : Kp _ := ⟨hk⟩
  have hin : (i : Int) < (n : Int) := by omega
  have fz := hk.frozen i
  obtain ⟨u, hu⟩ : ∃ u, w1.cell? ⟨g, i, none⟩ = some u := ⟨_, hk.cell (by simp; omega)⟩
  clear hown1 hk
  go_wp2
  go_ret
  refine ⟨_, _, rfl, hb1.setCell hg _, ?_⟩
  have h9 := HK.out.set i (.slice B m d)
  rw [List.set_append_left _ _ (by omega)] at h9
  exact RwM.of_blk h9 (by simp; omega) (fun h8 => by have := hM _ h8; omega) h1 h2
end
end Go.Proofs.Ytpbpegoobgfjcaa

namespace Go.Proofs.Ytpbpegoobgfjcaa
open Go.RowKit
def overL (o b : List UInt8) (k : Nat) : List UInt8 := b.take k ++ o.drop k
theorem overL_length (o b : List UInt8) (k : Nat) (hk : k ≤ b.length) : (overL o b k).length = max o.length k := by
  unfold overL; simp; omega
theorem overL_next (o b : List UInt8) (k i : Nat) (hk : k ≤ b.length) (x : UInt8) (hx : (if i < k then b[i]? else o[i]?) = some x) : cells8 ((overL o b k).take (i + 1)) = cells8 ((overL o b k).take i) ++ [.int .u8 (x.toNat : Int)] := by
  have h1 : (overL o b k)[i]? = some x := by
    unfold overL
    by_cases h : i < k
    · rw [if_pos h] at hx
      rw [List.getElem?_append_left (by simp; omega), List.getElem?_take, if_pos h, hx]
    · rw [if_neg h] at hx
      rw [List.getElem?_append_right (by simp; omega), List.getElem?_drop, ← hx]
      congr 1
      simp
      omega
  rw [List.take_add_one, h1]
  simp [cells8]
section
variable {M : Nat → Prop} {w : World}
set_option maxRecDepth 100000 in
set_option maxHeartbeats 2000000 in
theorem rover_any (hM : ∀ k, M k → k < w.heap.size) (A : Option Addr) (n c : Nat) (lo : List UInt8) (B : Option Addr) (m d : Nat) (lb : List UInt8) (ha : Bs w w.heap.size A n c lo) (hb : Bs w w.heap.size B m d lb) (hn : n ≤ 4294967296) (k : Nat) (hk : k ≤ m) (hm : m ≤ 4294967296) :
    Calls Try.prog 60 #[.slice A n c, .slice B m d, .int .i64 (k : Int)] w fun e w' => ∃ A' n' c', e = .returned (.slice A' n' c') ∧ Below w.heap.size w w' ∧ BsM w' M A' n' c' (overL lo lb k) := by
  have HA : Kp _ := ⟨ha⟩
  have HB : Kp _ := ⟨hb⟩
  have HL : Kp (lo.length = n ∧ lb.length = m) := ⟨ha.len, hb.len⟩
  obtain ⟨N, hN⟩ : ∃ N, N = max n k := ⟨_, rfl⟩
  have HLN : Kp ((overL lo lb k).length = N) := ⟨by rw [overL_length _ _ _ (by have := HL.out.2; omega), HL.out.1, hN]⟩
  have hN2 : N ≤ 4294967296 := by omega
  clear ha hb
  go_enter Try.func60, Try.ntmps60
  go_wp2
  go_loopg [7, 8] N (fun gk v7 v8 wr => ∃ i : Nat, i + gk = N ∧ v8 = .int .i64 i ∧ Hid (wr.ownsRow w.heap.size 5 1 v7 i (cells8 ((overL lo lb k).take i))) ∧ Below w.heap.size w wr)
  case atStart => exact ⟨0, by omega, rfl, own_nil _ _ _, Below.refl _ _⟩
  case round =>
    obtain ⟨i, hi, rfl, H, hB⟩ := hrel
    cases gk with
    | zero =>
      have h1 : ¬ ((i : Int) < (n : Int)) := by omega
      have h2 : ¬ ((i : Int) < (k : Int)) := by omega
      go_wp2
      go_ret
      have h9 := H.out
      rw [List.take_of_length_le (by rw [HLN.out]; omega)] at h9
      obtain ⟨A', c', rfl, hbs⟩ := BsM.of_own (M := M) h9 hM (by omega)
      exact ⟨A', _, c', rfl, hB, hbs⟩
    | succ g2 =>
      have hw1 : IntKind.i64.wrap ((i : Int) + 1) = ((i + 1 : Nat) : Int) := by rw [IntKind.wrap_i64]; omega
      by_cases hik : i < k
      · have h2 : (i : Int) < (k : Int) := by omega
        have h3 : (i : Int) < (m : Int) := by omega
        have him : i < lb.length := by rw [HL.out.2]; omega
        obtain ⟨b, o, rfl, hbl, hc⟩ := (HB.out.below hB).cells (by omega)
        have q := hc i him
        have HX : Kp _ := ⟨overL_next lo lb k i (by have := HL.out.2; omega) lb[i] (by rw [if_pos hik]; exact List.getElem?_eq_getElem him)⟩
        generalize lb[i] = x at *
        clear hc
        have hor : (i : Int) < (n : Int) ∨ ¬ ((i : Int) < (n : Int)) := Classical.em _
        rcases hor with h1 | h1
        all_goals
          go_wp2_with (at_builtin; refine wpList_app1 el8 rfl _ _ rfl w.heap.size _ i _ rfl H.out rfl rfl (by simp only [maxLen]; omega) (by omega) hB.size ?_)
          intro v' w' H' hb' _ _
          have H2 : Hid (w'.ownsRow w.heap.size 5 1 v' (i + 1) (cells8 ((overL lo lb k).take (i + 1)))) := by
            rw [HX.out]
            exact H'
          clear H H'
          go_wp2
          go_roundg g2
          case measure => omega
          case rel => exact ⟨i + 1, by omega, by go_num, H2, hB.trans hb'⟩
      · have h2 : ¬ ((i : Int) < (k : Int)) := by omega
        have h1 : (i : Int) < (n : Int) := by omega
        have him : i < lo.length := by rw [HL.out.1]; omega
        obtain ⟨b, o, rfl, hbl, hc⟩ := (HA.out.below hB).cells (by omega)
        have q := hc i him
        have HX : Kp _ := ⟨overL_next lo lb k i (by have := HL.out.2; omega) lo[i] (by rw [if_neg hik]; exact List.getElem?_eq_getElem him)⟩
        generalize lo[i] = x at *
        clear hc
        go_wp2_with (at_builtin; refine wpList_app1 el8 rfl _ _ rfl w.heap.size _ i _ rfl H.out rfl rfl (by simp only [maxLen]; omega) (by omega) hB.size ?_)
        intro v' w' H' hb' _ _
        have H2 : Hid (w'.ownsRow w.heap.size 5 1 v' (i + 1) (cells8 ((overL lo lb k).take (i + 1)))) := by
          rw [HX.out]
          exact H'
        clear H H'
        go_wp2
        go_roundg g2
        case measure => omega
        case rel => exact ⟨i + 1, by omega, by go_num, H2, hB.trans hb'⟩
end
end Go.Proofs.Ytpbpegoobgfjcaa

namespace Go.Proofs.Ytpbpegoobgfjcaa
open Go.RowKit
theorem layW_one (t : Wd) : layW t 1 = takeW t ∧ layK t 1 = if takeOk t = true then 1 else 0 := by
  obtain ⟨n, sl, s0, s1, ctr, lim, lost, left, reads, lies, nl, tr⟩ := t
  unfold layW takeW layK takeOk
  cases lim
  · simp
  · by_cases h : left = 0
    · subst h; simp
    · have : 1 ≤ left := by omega
      simp [h, this]
section
variable {M : Nat → Prop} {w : World} {a : Ta} {t : Wd}
theorem TvM.setCtr (h : TvM w M a t) (c : Nat) (hc : c < 18446744073709551616) : TvM w M a { t with ctr := c } := ⟨h.slots, h.seals, h.lies, h.trace, h.pow, h.pmax, h.big, hc⟩
set_option maxRecDepth 100000 in
set_option maxHeartbeats 2000000 in
theorem rbump_any (h : TvM w M a t) (hM : ∀ k, M k → k < w.heap.size) (hlen : t.tr.length ≤ 1000000) :
    Calls Try.prog 48 #[.agg (tvL a t).toArray] w fun e w' => ∃ a', e = .returned (.tuple #[.agg (tvL a' (bumpW t)).toArray, .bool (bumpB t)]) ∧ Below w.heap.size w w' ∧ a'.ln = a.ln ∧ TvM w' M a' (bumpW t) := by
  have HZ : Kp (zeroT'.length = 10) := ⟨rfl⟩
  have H : Kp _ := ⟨h⟩
  have hnum := h.num
  clear h
  by_cases hno : t.lost = true ∨ t.ctr = 18446744073709551615
  · have HE : Kp (bumpW t = t ∧ bumpB t = false) := ⟨by
      unfold bumpW bumpB
      rcases hno with h9 | h9
      · simp [h9]
      · rw [h9]; simp⟩
    have HL10 : Kp _ := ⟨tvL_length a t⟩
    have HO10 : Kp _ := ⟨tvL_one a t⟩
    rw [HE.out.1, HE.out.2]
    have hb1 : t.lost = true ∨ (t.lost = false ∧ ((t.ctr : Int) == 18446744073709551615) = true) := by
      cases hl : t.lost
      · refine .inr ⟨rfl, ?_⟩
        rcases hno with h9 | h9
        · rw [hl] at h9; cases h9
        · rw [h9]; rfl
      · exact .inl rfl
    clear hno hnum
    go_enter Try.func48, Try.ntmps48
    go_wp2_with (with_reducible refine wpList_box (o := ⟨some 1, _, _, _, _, _⟩) (cs := tvL a t) rfl (.tmp 0) rfl rfl ?_)
    intro w1 hk1 hb1' hs1
    have HK1 : Kp _ := ⟨hk1⟩
    clear hk1 hs1
    go_wp2_with (with_reducible refine wpList_alloc (o := ⟨some 2, _, _, _, _, _⟩) tyT rfl rfl ?_)
    intro w2 hk2 hb2 hs2
    have hl1 : w.heap.size < w1.heap.size := HK1.out.lt
    have HK2 : Kp _ := ⟨HK1.out.below hb2 HK1.out.lt⟩
    have HR2 : Kp _ := ⟨hk2⟩
    have hB2 : Below w.heap.size w w2 := hb1'.trans (hb2.mono hb1'.size)
    have e8 : w2.cell? ⟨w.heap.size, 8, none⟩ = some (.bool t.lost) := HK2.out.cell? 8
    have e3 : w2.cell? ⟨w.heap.size, 3, none⟩ = some (.int .u64 (t.ctr : Int)) := HK2.out.cell? 3
    clear hk2 hb2 hs2 HK1 hb1'
    rcases hb1 with hlo | ⟨hlo, hct⟩
    all_goals
      rw [hlo] at e8
      go_wp2_with (first
        | (with_reducible refine wpList_loadAll (o := ⟨some 13, _, _, _, _, _⟩) rwT rfl (.tmp 1) rfl rfl HK2.out HL10.out ?_)
        | (with_reducible refine wpList_storeAll (o := ⟨none, _, _, _, _, _⟩) (vs := tvL a t) rwT rfl (.tmp 2) (.tmp 13) rfl rfl HR2.out HZ.out HL10.out HO10.out rfl ?_))
      intro w6 hk6 ho6
      have HK6 : Kp _ := ⟨hk6⟩
      clear hk6
      go_wp2
      refine ret_arrB rfl rwT rfl rfl HK6.out (tvL_length _ _) rfl ?_
      exact ⟨_, rfl, hB2.trans (ho6.below (by omega)), rfl, H.out.below (hB2.trans (ho6.below (by omega)))⟩
  · have hlo : t.lost = false := by
      cases hl : t.lost
      · rfl
      · exact absurd (.inl hl) hno
    have hc : t.ctr ≠ 18446744073709551615 := fun h9 => hno (.inr h9)
    have hct : ((t.ctr : Int) == 18446744073709551615) = false := by rw [beq_eq_false_iff_ne]; omega
    have HH : Kp _ := ⟨H.out.takes 1⟩
    have HLt : Kp (bumpB t = takeOk t ∧ bumpW t = if takeOk t = true then { takeW t with ctr := t.ctr + 1, tr := t.tr ++ [⟨5, 0, 0, []⟩] } else takeW t) := ⟨by
      unfold bumpB bumpW
      have h8 : t.ctr < 18446744073709551615 := by omega
      have h9 : ¬ (18446744073709551615 ≤ t.ctr) := by omega
      simp [hlo, h8, h9]⟩
    have HOne : Kp _ := ⟨layW_one t⟩
    clear hno hc
    go_enter Try.func48, Try.ntmps48
    go_wp2_with (with_reducible refine wpList_box (o := ⟨some 1, _, _, _, _, _⟩) (cs := tvL a t) rfl (.tmp 0) rfl rfl ?_)
    intro w1 hk1 hb1 hs1
    have HK1 : Kp _ := ⟨hk1⟩
    clear hk1 hs1
    go_wp2_with (with_reducible refine wpList_alloc (o := ⟨some 2, _, _, _, _, _⟩) tyT rfl rfl ?_)
    intro w2 hk2 hb2 hs2
    have hl1 : w.heap.size < w1.heap.size := HK1.out.lt
    have HK2 : Kp _ := ⟨HK1.out.below hb2 HK1.out.lt⟩
    have HR2 : Kp _ := ⟨hk2⟩
    have hB2 : Below w.heap.size w w2 := hb1.trans (hb2.mono hb1.size)
    have e8 : w2.cell? ⟨w.heap.size, 8, none⟩ = some (.bool false) := by rw [← hlo]; exact HK2.out.cell? 8
    have e3 : w2.cell? ⟨w.heap.size, 3, none⟩ = some (.int .u64 (t.ctr : Int)) := HK2.out.cell? 3
    have HL10 : Kp _ := ⟨tvL_length a t⟩
    clear hk2 hb2 hs2 HK1 hb1
    go_wp2_with (with_reducible refine wpList_loadAll (o := ⟨some 15, _, _, _, _, _⟩) rwT rfl (.tmp 1) rfl rfl HK2.out HL10.out ?_)
    refine (rtakes_any (H.out.below hB2) 1 (by omega)).mono ?_
    rintro e w3 ⟨rfl, hb3⟩
    have hl2 : w1.heap.size < w2.heap.size := HR2.out.lt
    have HR3 : Kp _ := ⟨HR2.out.below hb3 hl2⟩
    have hB3 : Below w.heap.size w w3 := hB2.trans (hb3.mono hB2.size)
    have hs3 : w2.heap.size ≤ w3.heap.size := hb3.size
    have HLu : Kp _ := ⟨tvL_length (takesA a t 1) (layW t 1)⟩
    have HOu : Kp _ := ⟨tvL_one (takesA a t 1) (layW t 1)⟩
    clear HK2 HR2 hb3 e8 e3
    go_wp2_with (with_reducible refine wpList_alloc (o := ⟨some 4, _, _, _, _, _⟩) tyT rfl rfl ?_)
    intro w4 hk4 hb4 hs4
    have HK4 : Kp _ := ⟨hk4⟩
    have HR4 : Kp _ := ⟨HR3.out.below hb4 (by omega)⟩
    have hB4 : Below w.heap.size w w4 := hB3.trans (hb4.mono hB3.size)
    have hl4 : w3.heap.size < w4.heap.size := hk4.lt
    clear hk4 hb4 hs4 HR3
    go_wp2_with (with_reducible refine wpList_storeAll (o := ⟨none, _, _, _, _, _⟩) (vs := tvL (takesA a t 1) (layW t 1)) rwT rfl (.tmp 4) (.tmp 17) rfl rfl HK4.out HZ.out HLu.out HOu.out rfl ?_)
    intro w5 hk5 ho5
    have HK5 : Kp _ := ⟨hk5⟩
    have HR5 : Kp _ := ⟨HR4.out.only ho5 (by omega)⟩
    have hB5 : Below w.heap.size w w5 := hB4.trans (ho5.below (by omega))
    have hsz5 : w4.heap.size ≤ w5.heap.size := by rw [ho5.size]; exact Nat.le_refl _
    generalize w3.heap.size = g3 at *
    generalize w1.heap.size = g1 at *
    clear hk5 ho5 HK4 HR4
    by_cases hok : takeOk t = true
    · have HKt : Kp (layK t 1 = 1) := ⟨by rw [HOne.out.2, if_pos hok]⟩
      have HE : Kp (bumpB t = true ∧ bumpW t = { takeW t with ctr := t.ctr + 1, tr := t.tr ++ [⟨5, 0, 0, []⟩] }) := ⟨by rw [HLt.out.1, HLt.out.2, if_pos hok]; exact ⟨hok, rfl⟩⟩
      have hc' : ¬ ((t.ctr : Int) = 18446744073709551615) := by simpa using hct
      have hwr : IntKind.u64.wrap ((t.ctr : Int) + 1) = (t.ctr : Int) + 1 := by
        rw [show (t.ctr : Int) + 1 = ((t.ctr + 1 : Nat) : Int) by omega, wrap_u64_nat, Nat.mod_eq_of_lt (by omega)]
      rw [HKt.out]
      have e3 : w5.cell? ⟨g3, 3, none⟩ = some (.int .u64 ((layW t 1).ctr : Int)) := HK5.out.cell? 3
      have f3 := HK5.out.frozen 3
      have hctr : (layW t 1).ctr = t.ctr := by rw [HOne.out.1]; exact (takeW_same t).2.2.2.2.2.2.2.1
      rw [hctr] at e3
      have HK6 : Kp (Blk (w5.setCell ⟨g3, 3, none⟩ (.int .u64 ((t.ctr : Int) + 1))) g3 42 (tvL (takesA a t 1) { layW t 1 with ctr := t.ctr + 1 })) := ⟨HK5.out.set 3 _⟩
      have HR6 : Kp (Blk (w5.setCell ⟨g3, 3, none⟩ (.int .u64 ((t.ctr : Int) + 1))) g1 42 zeroT') := ⟨HR5.out.other (by show g1 ≠ g3; omega) _⟩
      have hB6 : Below w.heap.size w (w5.setCell ⟨g3, 3, none⟩ (.int .u64 ((t.ctr : Int) + 1))) := hB5.setCell (by show w.heap.size ≤ g3; omega) _
      have HLx : Kp _ := ⟨tvL_length (takesA a t 1) { layW t 1 with ctr := t.ctr + 1 }⟩
      have hcn : t.ctr + 1 < 18446744073709551616 := by omega
      have HTx : Kp _ := ⟨(HH.out.chg (M' := fun k => M k ∨ k = g1) (S := fun _ => False) (Chg.of_below _ hB6) (fun _ h => h.elim) (fun k hk => hk.imp id (fun h9 => by rw [h9]; omega))).setCtr (t.ctr + 1) hcn⟩
      have HTr : Kp ((layW t 1).tr = t.tr) := ⟨by rw [HOne.out.1]; exact (takeW_same t).2.2.2.2.2.2.1⟩
      clear HK5 HR5 hctr
      go_wp2_with (with_reducible refine wpList_loadAll (o := ⟨some 26, _, _, _, _, _⟩) rwT rfl (.tmp 4) rfl rfl HK6.out HLx.out ?_)
      refine (rnote_any HTx.out (fun k hk => hk.elim (fun h9 => Nat.lt_of_lt_of_le (hM k h9) hB6.size) (fun h9 => by rw [h9]; exact HR6.out.lt)) (by show (layW t 1).tr.length ≤ _; rw [HTr.out]; exact hlen) ⟨5, 0, 0, []⟩ ⟨.inr (.inr (.inr (.inr ⟨rfl, rfl, rfl, rfl⟩))), rfl, rfl⟩ none 0 0 (BsM.zero _ _)).mono ?_
      rintro e w7 ⟨a7, rfl, hb7, hn7, HT7⟩
      have HN7 : Kp (a7.ln = a.ln) := ⟨hn7⟩
      clear hn7
      have HT7 : Kp _ := ⟨HT7⟩
      have HR7 : Kp _ := ⟨HR6.out.below hb7 HR6.out.lt⟩
      have hB7 : Below w.heap.size w w7 := hB6.trans (hb7.mono hB6.size)
      have HL7 : Kp _ := ⟨tvL_length a7 { { layW t 1 with ctr := t.ctr + 1 } with tr := (layW t 1).tr ++ [⟨5, 0, 0, []⟩] }⟩
      have HO7 : Kp _ := ⟨tvL_one a7 { { layW t 1 with ctr := t.ctr + 1 } with tr := (layW t 1).tr ++ [⟨5, 0, 0, []⟩] }⟩
      clear HK6 HR6 hb7 f3 e3
      go_wp2_with (with_reducible refine wpList_storeAll (o := ⟨none, _, _, _, _, _⟩) (vs := tvL a7 { { layW t 1 with ctr := t.ctr + 1 } with tr := (layW t 1).tr ++ [⟨5, 0, 0, []⟩] }) rwT rfl (.tmp 2) (.tmp 27) rfl rfl HR7.out HZ.out HL7.out HO7.out rfl ?_)
      intro w8 hk8 ho8
      have HK8 : Kp _ := ⟨hk8⟩
      clear hk8
      go_wp2
      refine ret_arrB rfl rwT rfl rfl HK8.out (tvL_length _ _) rfl ?_
      have hB8 := hB7.trans (ho8.below (by omega))
      have e9 : bumpW t = { { layW t 1 with ctr := t.ctr + 1 } with tr := (layW t 1).tr ++ [⟨5, 0, 0, []⟩] } := by rw [HE.out.2, HTr.out, HOne.out.1]
      rw [HE.out.1, e9]
      exact ⟨a7, rfl, hB8, HN7.out, HT7.out.chg (Chg.of_only (S := fun k => k = g1) ho8 rfl) (fun _ h => .inr h) (fun _ h => .inl (.inl h))⟩
    · have HKt : Kp (layK t 1 = 0) := ⟨by rw [HOne.out.2, if_neg hok]⟩
      have HE : Kp (bumpB t = false ∧ bumpW t = layW t 1) := ⟨by rw [HLt.out.1, HLt.out.2, if_neg hok, HOne.out.1]; exact ⟨by simpa using hok, rfl⟩⟩
      rw [HKt.out]
      go_wp2_with (first
        | (with_reducible refine wpList_loadAll (o := ⟨some 21, _, _, _, _, _⟩) rwT rfl (.tmp 4) rfl rfl HK5.out HLu.out ?_)
        | (with_reducible refine wpList_storeAll (o := ⟨none, _, _, _, _, _⟩) (vs := tvL (takesA a t 1) (layW t 1)) rwT rfl (.tmp 2) (.tmp 21) rfl rfl HR5.out HZ.out HLu.out HOu.out rfl ?_))
      intro w6 hk6 ho6
      have HK6 : Kp _ := ⟨hk6⟩
      clear hk6
      go_wp2
      refine ret_arrB rfl rwT rfl rfl HK6.out (tvL_length _ _) rfl ?_
      rw [HE.out.1, HE.out.2]
      exact ⟨_, rfl, hB5.trans (ho6.below (by omega)), rfl, HH.out.below (hB5.trans (ho6.below (by omega)))⟩
end
end Go.Proofs.Ytpbpegoobgfjcaa

namespace Go.Proofs.Ytpbpegoobgfjcaa
open Go.RowKit

theorem Blk.allC {W : World} {g : Nat} {t : TypeId} {cs : List Value} (h : Blk W g t cs) : W.rangeAt g 0 cs := h.range (n := cs.length) (by rw [List.drop_zero, List.take_length])
theorem tell_is (t : Wd) (k x y : Int) (l : List UInt8) : { toldT t with tr := (toldT t).tr ++ [⟨k, x, y, toldL t l⟩] } = tellW t k x y l := rfl
/-- T as the World t says, and bytes beside it; what lies in Lo may turn -/
structure TB (W : World) (Lo : Nat → Prop) (a : Ta) (t : Wd) (A : Option Addr) (n c : Nat) (l : List UInt8) : Prop where
  ex : ∃ M5 : Nat → Prop, (∀ k, Lo k → M5 k) ∧ (∀ k, M5 k → k < W.heap.size) ∧ TvM W M5 a t ∧ BsM W M5 A n c l
section
variable {W W' : World} {Lo : Nat → Prop} {a : Ta} {t : Wd} {A : Option Addr} {n c g : Nat} {l : List UInt8}
theorem TB.below (h : TB W Lo a t A n c l) (hb : Below W.heap.size W W') : TB W' Lo a t A n c l := by
  obtain ⟨M5, h1, h2, h3, h4⟩ := h.ex
  exact ⟨M5, h1, fun k hk => Nat.lt_of_lt_of_le (h2 k hk) hb.size, h3.below hb, h4.below hb⟩
theorem TB.add (h : TB W Lo a t A n c l) (hb : Below W.heap.size W W') (hg : W.heap.size ≤ g) (hl : g < W'.heap.size) : TB W' (fun k => Lo k ∨ k = g) a t A n c l := by
  obtain ⟨M5, h1, h2, h3, h4⟩ := h.ex
  have hM : ∀ k, (M5 k ∨ k = g) → M5 k ∨ W.heap.size ≤ k := fun k hk => hk.imp id (fun h9 => by rw [h9]; exact hg)
  exact ⟨fun k => M5 k ∨ k = g, fun k hk => hk.imp (h1 k) id, fun k hk => hk.elim (fun h9 => Nat.lt_of_lt_of_le (h2 k h9) hb.size) (fun h9 => by rw [h9]; exact hl), h3.chg (Chg.of_below (fun _ => False) hb) (fun _ h => h.elim) hM, h4.chg (Chg.of_below (fun _ => False) hb) (fun _ h => h.elim) hM⟩
theorem TB.only (h : TB W Lo a t A n c l) (ho : Only g W W') (hg : Lo g) : TB W' Lo a t A n c l := by
  obtain ⟨M5, h1, h2, h3, h4⟩ := h.ex
  have hS : ∀ k, k = g → M5 k := fun k hk => by rw [hk]; exact h1 g hg
  exact ⟨M5, h1, fun k hk => by rw [ho.size]; exact h2 k hk, h3.chg (Chg.of_only (S := fun k => k = g) ho rfl) hS (fun _ h => .inl h), h4.chg (Chg.of_only (S := fun k => k = g) ho rfl) hS (fun _ h => .inl h)⟩
end
section
variable {M : Nat → Prop} {w : World} {a : Ta} {t : Wd}
set_option maxRecDepth 100000 in
set_option maxHeartbeats 4000000 in
theorem rlook_any (h : TvM w M a t) (hM : ∀ k, M k → k < w.heap.size) (hlen : t.tr.length ≤ 1000000) (hrd : t.reads ≤ 1000000) (i : Int) (hi : (Lit.int .i64 i).wf = true) :
    Calls Try.prog 46 #[.agg (tvL a t).toArray, .int .i64 i] w fun e w' => ∃ a' A n c, e = .returned (.tuple #[.agg (tvL a' (lookW t i)).toArray, .slice A n c]) ∧ Below w.heap.size w w' ∧ a'.ln = a.ln ∧ TvM w' M a' (lookW t i) ∧ BsM w' M A n c (lookL t i) := by
  have HZ : Kp (zeroT'.length = 10) := ⟨rfl⟩
  have HL10 : Kp _ := ⟨tvL_length a t⟩
  have HO10 : Kp _ := ⟨tvL_one a t⟩
  have HT : Kp _ := ⟨h⟩
  have HM : Kp _ := ⟨hM⟩
  have HLe : Kp (t.tr.length ≤ 1000000 ∧ t.reads ≤ 1000000) := ⟨⟨hlen, hrd⟩⟩
  clear hlen hrd hM
  by_cases hth : sealW t i = true
  · have HW : Kp (lookW t i = tellW t 3 i 0 (sealL t i)) := ⟨by unfold lookW; rw [if_pos hth]⟩
    have HLd : Kp (lookL t i = toldL t (sealL t i)) := ⟨by unfold lookL; rw [if_pos hth]⟩
    have h9 := hth
    unfold sealW at h9
    simp only [Bool.and_eq_true, Bool.not_eq_true', decide_eq_true_eq] at h9
    obtain ⟨hlo, hi0, hi2⟩ := h9
    obtain ⟨k, rfl⟩ : ∃ k : Nat, i = k := ⟨i.toNat, by omega⟩
    obtain ⟨v0, v1, hse⟩ := h.seals
    obtain ⟨l0, hl0⟩ : ∃ l, l = sealL t (k : Int) := ⟨_, rfl⟩
    obtain ⟨A3, n3, c3, hv3, hb3⟩ : ∃ A n c, [v0, v1][k]? = some (.slice A n c) ∧ BsM w M A n c l0 := by
      rcases (by omega : k = 0 ∨ k = 1) with rfl | rfl
      · obtain ⟨A, n, c, rfl, hb⟩ := hse.one
        exact ⟨A, n, c, rfl, by rw [hl0]; exact hb⟩
      · obtain ⟨A, n, c, rfl, hb⟩ := hse.two
        exact ⟨A, n, c, rfl, by rw [hl0]; exact hb⟩
    obtain ⟨bs, os, hA, hbs, _, hcs⟩ := hse.row.cells (by omega)
    have hcv := hcs k _ hv3
    have HBt : Kp _ := ⟨hb3⟩
    have HCv : Kp (∀ W, Below w.heap.size w W → W.cell? ⟨bs, os + k, none⟩ = some (.slice A3 n3 c3)) := ⟨fun W hW => (hW.cell (p := ⟨bs, os + k, none⟩) hbs).trans hcv⟩
    have HA : Kp (a.eA = some ⟨bs, os, none⟩) := ⟨hA⟩
    have HHl : Kp _ := ⟨hl0⟩
    have hk2 : (k : Int) < 2 := by omega
    rw [← hl0] at HW HLd
    have HOk : Kp (TrOk ⟨3, (k : Int), 0, toldL t l0⟩) := ⟨⟨.inr (.inr (.inl ⟨rfl, rfl⟩)), hi, rfl⟩⟩
    clear hcs hcv hse hv3 hb3 hA hth h hi hl0 hi0 hi2
    go_enter Try.func46, Try.ntmps46
    go_wp2_with (with_reducible refine wpList_box (o := ⟨some 2, _, _, _, _, _⟩) (cs := tvL a t) rfl (.tmp 0) rfl rfl ?_)
    intro w1 hk1 hb1 hs1
    have HK1 : Kp _ := ⟨hk1⟩
    clear hk1 hs1
    go_wp2_with (with_reducible refine wpList_alloc (o := ⟨some 4, _, _, _, _, _⟩) tyT rfl rfl ?_)
    intro w2 hk2' hb2 hs2
    have HK2 : Kp _ := ⟨HK1.out.below hb2 HK1.out.lt⟩
    have HR2 : Kp _ := ⟨hk2'⟩
    have hB2 : Below w.heap.size w w2 := hb1.trans (hb2.mono hb1.size)
    have e8 : w2.cell? ⟨w.heap.size, 8, none⟩ = some (.bool t.lost) := HK2.out.cell? 8
    rw [hlo] at e8
    have e2 : w2.cell? ⟨w.heap.size, 2, none⟩ = some (.slice a.eA 2 a.ec) := HK2.out.cell? 2
    rw [HA.out] at e2
    have q1 : ∀ W, Below w2.heap.size w2 W → W.cell? ⟨w.heap.size, 2, none⟩ = some (.slice (some ⟨bs, os, none⟩) 2 a.ec) := fun W hW => (hW.cell (p := ⟨w.heap.size, 2, none⟩) HK2.out.lt).trans e2
    have q2 : ∀ W, Below w2.heap.size w2 W → W.cell? ⟨bs, os + k, none⟩ = some (.slice A3 n3 c3) := fun W hW => HCv.out W (hB2.trans (hW.mono hB2.size))
    have HTl : Kp (∀ W, Below w2.heap.size w2 W → TvM W (fun k => M k ∨ w.heap.size ≤ k ∧ k < W.heap.size) a t) := ⟨fun W hW => HT.out.chg (Chg.of_below (fun _ => False) (hB2.trans (hW.mono hB2.size))) (fun _ h => h.elim) (fun k hk => hk.imp id (fun h => h.1))⟩
    have HBl : Kp (∀ W, Below w2.heap.size w2 W → BsM W (fun k => M k ∨ w.heap.size ≤ k ∧ k < W.heap.size) A3 n3 c3 l0) := ⟨fun W hW => HBt.out.chg (Chg.of_below (fun _ => False) (hB2.trans (hW.mono hB2.size))) (fun _ h => h.elim) (fun k hk => hk.imp id (fun h => h.1))⟩
    have HMl : Kp (∀ W, Below w2.heap.size w2 W → ∀ k, (M k ∨ w.heap.size ≤ k ∧ k < W.heap.size) → k < W.heap.size) := ⟨fun W hW k hk => hk.elim (fun h9 => Nat.lt_of_lt_of_le (HM.out k h9) (Nat.le_trans hB2.size hW.size)) (fun h9 => h9.2)⟩
    have hw12 : w1.heap.size < w2.heap.size := HR2.out.lt
    obtain ⟨g4, hg4⟩ : ∃ g, g = w1.heap.size := ⟨_, rfl⟩
    rw [← hg4] at HR2 hw12 ⊢
    have h4 : w.heap.size < g4 := by have := HK1.out.lt; omega
    clear hk2' hb2 hs2 HK1 hb1 HCv HBt hg4 e2
    go_wp2_with fail
    refine wp_region_held_drew (S := fun W => Below w2.heap.size w2 W) (by kernel_rfl) ((Below.refl _ _).drew) (fun hHeld => ?_)
    generalize w2.drew = wS at *
    refine wpAnyH_take (i := 0) (oi := ⟨some 20, _, _, _, _, _⟩) (v := _) rfl (by kernel_rfl) (by kernel_rfl) (by kernel_rfl) (fun _ _ _ h => h) (yieldsIf_load_mid (by rfl) 42 (.tmp 2) rfl w.heap.size 0 rfl (tvL a t) _ (fun W hW => (HK2.out.below hW HK2.out.lt).allC) rwT.ty rwT.row (by rw [rwT.size, HL10.out])) (by assumption) ?_
    try simp only [Act.put, List.setIfInBounds_toArray, List.set_cons_zero, List.set_cons_succ]
    refine wpAnyH_take (i := 1) (oi := ⟨some 21, _, _, _, _, _⟩) (v := ?_) rfl (by kernel_rfl) (by kernel_rfl) (by kernel_rfl) (fun _ _ _ h => h) (Or.inl ⟨by rfl, by intro w hSw; go_simp; try rfl⟩) (by assumption) ?_
    try simp only [Act.put, List.setIfInBounds_toArray, List.set_cons_zero, List.set_cons_succ]
    refine wpAnyH_take (i := 2) (oi := ⟨some 22, _, _, _, _, _⟩) (v := ?_) rfl (by kernel_rfl) (by kernel_rfl) (by kernel_rfl) (fun _ _ _ h => h) (Or.inl ⟨by rfl, by intro w hSw; go_simp; try rfl⟩) (by assumption) ?_
    try simp only [Act.put, List.setIfInBounds_toArray, List.set_cons_zero, List.set_cons_succ]
    refine wpAnyH_take (i := 3) (oi := ⟨some 23, _, _, _, _, _⟩) (v := ?_) rfl (by kernel_rfl) (by kernel_rfl) (by kernel_rfl) (fun _ _ _ h => h) (Or.inl ⟨by rfl, by intro w hSw; go_simp; try rfl⟩) (by assumption) ?_
    try simp only [Act.put, List.setIfInBounds_toArray, List.set_cons_zero, List.set_cons_succ]
    refine wpAnyH_take (i := 4) (oi := ⟨some 24, _, _, _, _, _⟩) (v := ?_) rfl (by kernel_rfl) (by kernel_rfl) (by kernel_rfl) (fun _ _ _ h => h) (Or.inl ⟨by rfl, by intro w hSw; go_simp; try rfl⟩) (by assumption) ?_
    try simp only [Act.put, List.setIfInBounds_toArray, List.set_cons_zero, List.set_cons_succ]
    refine wpAnyH_take (i := 5) (oi := ⟨some 25, _, _, _, _, _⟩) (v := ?_) rfl (by kernel_rfl) (by kernel_rfl) (by kernel_rfl) (fun _ _ _ h => h) (Or.inl ⟨by rfl, by intro w hSw; go_simp; try rfl⟩) (by assumption) ?_
    try simp only [Act.put, List.setIfInBounds_toArray, List.set_cons_zero, List.set_cons_succ]
    refine wpAnyH_ready (rs := [6, 10]) (by kernel_rfl) (by simp) ?_
    refine AllReadyH.cons (o := ⟨some 26, _, _, _, _, _⟩) rfl (fun K hK => ?_) (AllReadyH.cons (o := ⟨some 6, _, _, _, _, _⟩) rfl (fun K hK => ?_) AllReadyH.nil)
    · have hWs := hHeld.size
      go_simp
      refine (rtold_any (HTl.out wS hHeld) HLe.out.2 A3 n3 c3 l0 (HBl.out _ hHeld)).mono ?_
      rintro e w51 ⟨A5, n5, c5, rfl, hb', ht5, hx5⟩
      have HT5 : Kp (TB w51 (fun k => M k ∨ w.heap.size ≤ k ∧ k < wS.heap.size) a (toldT t) A5 n5 c5 (toldL t l0)) := ⟨⟨_, fun _ h => h, fun k hk => Nat.lt_of_lt_of_le (HMl.out wS hHeld k hk) hb'.size, ht5, hx5⟩⟩
      first | (have HT5 : Kp (TB w51 (fun k => (M k ∨ k = g4) ∨ k = g6) a (toldT t) A5 n5 c5 (toldL t l0)) := ⟨by obtain ⟨M5, z1, z2, z3, z4⟩ := HT5.out.ex; exact ⟨M5, fun k hk => z1 k (hk.elim (fun h => h.imp id (fun h9 => by omega)) (fun h9 => .inr (by omega))), z2, z3, z4⟩⟩) | (replace HT5 : Kp (TB w51 (fun k => M k ∨ k = g4) a (toldT t) A5 n5 c5 (toldL t l0)) := ⟨by obtain ⟨M5, z1, z2, z3, z4⟩ := HT5.out.ex; exact ⟨M5, fun k hk => z1 k (hk.imp id (fun h9 => by omega)), z2, z3, z4⟩⟩)
      try replace HU : Kp _ := ⟨HU.out.below hb' HU.out.lt⟩
      refine hK.out _ _ (hHeld.trans (hb'.mono hHeld.size)) (fun hHeld2 => ?_)
      clear hb' ht5 hx5 hWs
      clear hK K hHeld
      have hHeld := hHeld2
      clear hHeld2
      try simp only [Act.put, List.setIfInBounds_toArray, List.set_cons_zero, List.set_cons_succ]
      refine wpAnyH_take (i := 7) (oi := ⟨some 19, _, _, _, _, _⟩) (v := ?_) rfl (by kernel_rfl) (by kernel_rfl) (by kernel_rfl) (fun _ _ _ h => h) (Or.inl ⟨by rfl, by intro w hSw; go_simp; try rfl⟩) (by assumption) ?_
      try simp only [Act.put, List.setIfInBounds_toArray, List.set_cons_zero, List.set_cons_succ]
      refine wpAnyH_take (i := 8) (oi := ⟨some 27, _, _, _, _, _⟩) (v := ?_) rfl (by kernel_rfl) (by kernel_rfl) (by kernel_rfl) (fun _ _ _ h => h) (Or.inl ⟨by rfl, by intro w hSw; go_simp; try rfl⟩) (by assumption) ?_
      try simp only [Act.put, List.setIfInBounds_toArray, List.set_cons_zero, List.set_cons_succ]
      refine wpAnyH_take (i := 9) (oi := ⟨some 28, _, _, _, _, _⟩) (v := ?_) rfl (by kernel_rfl) (by kernel_rfl) (by kernel_rfl) (fun _ _ _ h => h) (Or.inl ⟨by rfl, by intro w hSw; go_simp; try rfl⟩) (by assumption) ?_
      try simp only [Act.put, List.setIfInBounds_toArray, List.set_cons_zero, List.set_cons_succ]
      refine wpAnyH_ready (rs := [10]) (by kernel_rfl) (by simp) ?_
      refine AllReadyH.cons (o := ⟨some 6, _, _, _, _, _⟩) rfl (fun K hK => ?_) AllReadyH.nil
      refine step_alloc tyT rfl rfl ?_
      intro w52 hk4 hb'
      have hgl := hk4.lt
      have hge := hHeld.size
      try replace HT5 : Kp (TB w52 (fun k => (M k ∨ k = g4) ∨ k = w51.heap.size) a (toldT t) A5 n5 c5 (toldL t l0)) := ⟨HT5.out.add hb' (Nat.le_refl _) hgl⟩
      have HU : Kp _ := ⟨hk4⟩
      obtain ⟨g6, hg6⟩ : ∃ g, g = w51.heap.size := ⟨_, rfl⟩
      rw [← hg6] at HU hge hgl ⊢
      try rw [← hg6] at HT5
      refine hK.out _ _ (hHeld.trans (hb'.mono hHeld.size)) (fun hHeld2 => ?_)
      clear hk4 hb' hg6
      clear hK K hHeld
      have hHeld := hHeld2
      clear hHeld2
      try simp only [Act.put, List.setIfInBounds_toArray, List.set_cons_zero, List.set_cons_succ]
      refine wpAnyH_ready (rs := [11]) (by kernel_rfl) (by simp) ?_
      refine AllReadyH.cons (o := ⟨none, _, _, _, _, _⟩) rfl (fun K hK => ?_) AllReadyH.nil
      have HLu : Kp _ := ⟨tvL_length a (toldT t)⟩
      refine step_store rwT rfl (.tmp 6) (.tmp 27) rfl rfl rfl HU.out HLu.out (by rw [HZ.out]; decide) (tvL_one _ _) ?_
      intro w53 hk ho
      have HV : Kp (Blk w53 g6 42 (tvL a (toldT t))) := ⟨by have h := hk; rwa [List.drop_of_length_le (by rw [HZ.out]; decide), List.take_zero, List.nil_append, List.append_nil] at h⟩
      replace HT5 : Kp _ := ⟨HT5.out.only ho (.inr rfl)⟩
      refine hK.out _ _ (hHeld.trans (ho.below hge)) (fun hHeld2 => ?_)
      clear hk ho HU
      clear hK K hHeld
      have hHeld := hHeld2
      clear hHeld2
      try simp only [Act.put]
      refine wpAnyH_take (i := 12) (oi := ⟨some 7, _, _, _, _, _⟩) (v := ?_) rfl (by kernel_rfl) (by kernel_rfl) (by kernel_rfl) (fun _ _ _ h => h) (Or.inl ⟨by rfl, by intro w hSw; go_simp; try rfl⟩) (by assumption) ?_
      try simp only [Act.put, List.setIfInBounds_toArray, List.set_cons_zero, List.set_cons_succ]
      refine wpAnyH_done (by kernel_rfl) ?_ _
      have HR5 : Kp _ := ⟨HR2.out.below hHeld HR2.out.lt⟩
      have hB5 := hB2.trans (hHeld.mono hB2.size)
      clear hHeld HR2 HK2 HTl HBl HMl q1 q2
      generalize w53 = w5 at *
      obtain ⟨M5, z1, z2, z3, z4⟩ := HT5.out.ex
      have HT6 : Kp _ := ⟨z3⟩
      have HX6 : Kp _ := ⟨z4⟩
      have HM5 : Kp ((∀ k, ((M k ∨ k = g4) ∨ k = g6) → M5 k) ∧ ∀ k, M5 k → k < w5.heap.size) := ⟨⟨z1, z2⟩⟩
      have HLu : Kp _ := ⟨tvL_length a (toldT t)⟩
      have HTr : Kp ((toldT t).tr.length ≤ 1000000) := ⟨HLe.out.1⟩
      clear z1 z2 z3 z4 HT5
      go_wp2_with (with_reducible refine wpList_loadAll (o := ⟨some 29, _, _, _, _, _⟩) rwT rfl (.tmp 6) rfl rfl HV.out HLu.out ?_)
      refine (rnote_any HT6.out HM5.out.2 HTr.out ⟨3, (k : Int), 0, toldL t l0⟩ HOk.out A5 n5 c5 HX6.out).mono ?_
      rintro e w6 ⟨a6, rfl, hb6, hn6, ht6⟩
      have HN6 : Kp (a6.ln = a.ln) := ⟨hn6⟩
      clear hn6
      have HR6 : Kp _ := ⟨HR5.out.below hb6 HR5.out.lt⟩
      have HX7 : Kp _ := ⟨HX6.out.below hb6⟩
      have hB6 := hB5.trans (hb6.mono hB5.size)
      have ht7 : TvM w6 M5 a6 (tellW t 3 (k : Int) 0 l0) := ht6
      have HT7 : Kp _ := ⟨ht7⟩
      have HLv : Kp _ := ⟨tvL_length a6 (tellW t 3 (k : Int) 0 l0)⟩
      have HOv : Kp _ := ⟨tvL_one a6 (tellW t 3 (k : Int) 0 l0)⟩
      rw [tell_is]
      clear hb6 ht6 ht7 HR5 HX6 HT6 HV HLu hB5
      go_wp2_with (with_reducible refine wpList_storeAll (o := ⟨none, _, _, _, _, _⟩) (vs := tvL a6 (tellW t 3 (k : Int) 0 l0)) rwT rfl (.tmp 4) (.tmp 32) rfl rfl HR6.out HZ.out HLv.out HOv.out rfl ?_)
      intro w7 hk7 ho7
      have HK7 : Kp _ := ⟨hk7⟩
      have hB7 := hB6.trans (ho7.below (Nat.le_of_lt h4))
      have hM4 : ∀ k, k = g4 → M5 k := fun k hk => HM5.out.1 k (.inl (.inr hk))
      have hMM : ∀ k, M k → M5 k ∨ w6.heap.size ≤ k := fun k hk => .inl (HM5.out.1 k (.inl (.inl hk)))
      have HT8 : Kp (TvM w7 M a6 (tellW t 3 (k : Int) 0 l0)) := ⟨HT7.out.chg (Chg.of_only (S := fun k => k = g4) ho7 rfl) hM4 hMM⟩
      have HX8 : Kp (BsM w7 M A5 n5 c5 (toldL t l0)) := ⟨HX7.out.chg (Chg.of_only (S := fun k => k = g4) ho7 rfl) hM4 hMM⟩
      clear hk7 hM4 hMM HT7 HX7 HM5 ho7
      go_wp2
      refine ret_arrB rfl rwT rfl rfl HK7.out (tvL_length _ _) rfl ?_
      rw [HW.out, HLd.out]
      exact ⟨a6, A5, n5, c5, rfl, hB7, HN6.out, HT8.out, HX8.out⟩
    · refine step_alloc tyT rfl rfl ?_
      intro w54 hk4 hb'
      have hgl := hk4.lt
      have hge := hHeld.size
      try replace HT5 : Kp (TB w54 (fun k => (M k ∨ k = g4) ∨ k = wS.heap.size) a (toldT t) A5 n5 c5 (toldL t l0)) := ⟨HT5.out.add hb' (Nat.le_refl _) hgl⟩
      have HU : Kp _ := ⟨hk4⟩
      obtain ⟨g6, hg6⟩ : ∃ g, g = wS.heap.size := ⟨_, rfl⟩
      rw [← hg6] at HU hge hgl ⊢
      try rw [← hg6] at HT5
      refine hK.out _ _ (hHeld.trans (hb'.mono hHeld.size)) (fun hHeld2 => ?_)
      clear hk4 hb' hg6
      clear hK K hHeld
      have hHeld := hHeld2
      clear hHeld2
      try simp only [Act.put, List.setIfInBounds_toArray, List.set_cons_zero, List.set_cons_succ]
      refine wpAnyH_ready (rs := [6]) (by kernel_rfl) (by simp) ?_
      refine AllReadyH.cons (o := ⟨some 26, _, _, _, _, _⟩) rfl (fun K hK => ?_) AllReadyH.nil
      have hWs := hHeld.size
      go_simp
      refine (rtold_any (HTl.out w54 hHeld) HLe.out.2 A3 n3 c3 l0 (HBl.out _ hHeld)).mono ?_
      rintro e w55 ⟨A5, n5, c5, rfl, hb', ht5, hx5⟩
      have HT5 : Kp (TB w55 (fun k => M k ∨ w.heap.size ≤ k ∧ k < w54.heap.size) a (toldT t) A5 n5 c5 (toldL t l0)) := ⟨⟨_, fun _ h => h, fun k hk => Nat.lt_of_lt_of_le (HMl.out w54 hHeld k hk) hb'.size, ht5, hx5⟩⟩
      first | (have HT5 : Kp (TB w55 (fun k => (M k ∨ k = g4) ∨ k = g6) a (toldT t) A5 n5 c5 (toldL t l0)) := ⟨by obtain ⟨M5, z1, z2, z3, z4⟩ := HT5.out.ex; exact ⟨M5, fun k hk => z1 k (hk.elim (fun h => h.imp id (fun h9 => by omega)) (fun h9 => .inr (by omega))), z2, z3, z4⟩⟩) | (replace HT5 : Kp (TB w55 (fun k => M k ∨ k = g4) a (toldT t) A5 n5 c5 (toldL t l0)) := ⟨by obtain ⟨M5, z1, z2, z3, z4⟩ := HT5.out.ex; exact ⟨M5, fun k hk => z1 k (hk.imp id (fun h9 => by omega)), z2, z3, z4⟩⟩)
      try replace HU : Kp _ := ⟨HU.out.below hb' HU.out.lt⟩
      refine hK.out _ _ (hHeld.trans (hb'.mono hHeld.size)) (fun hHeld2 => ?_)
      clear hb' ht5 hx5 hWs
      clear hK K hHeld
      have hHeld := hHeld2
      clear hHeld2
      try simp only [Act.put, List.setIfInBounds_toArray, List.set_cons_zero, List.set_cons_succ]
      refine wpAnyH_take (i := 7) (oi := ⟨some 19, _, _, _, _, _⟩) (v := ?_) rfl (by kernel_rfl) (by kernel_rfl) (by kernel_rfl) (fun _ _ _ h => h) (Or.inl ⟨by rfl, by intro w hSw; go_simp; try rfl⟩) (by assumption) ?_
      try simp only [Act.put, List.setIfInBounds_toArray, List.set_cons_zero, List.set_cons_succ]
      refine wpAnyH_take (i := 8) (oi := ⟨some 27, _, _, _, _, _⟩) (v := ?_) rfl (by kernel_rfl) (by kernel_rfl) (by kernel_rfl) (fun _ _ _ h => h) (Or.inl ⟨by rfl, by intro w hSw; go_simp; try rfl⟩) (by assumption) ?_
      try simp only [Act.put, List.setIfInBounds_toArray, List.set_cons_zero, List.set_cons_succ]
      refine wpAnyH_take (i := 9) (oi := ⟨some 28, _, _, _, _, _⟩) (v := ?_) rfl (by kernel_rfl) (by kernel_rfl) (by kernel_rfl) (fun _ _ _ h => h) (Or.inl ⟨by rfl, by intro w hSw; go_simp; try rfl⟩) (by assumption) ?_
      try simp only [Act.put, List.setIfInBounds_toArray, List.set_cons_zero, List.set_cons_succ]
      refine wpAnyH_ready (rs := [11]) (by kernel_rfl) (by simp) ?_
      refine AllReadyH.cons (o := ⟨none, _, _, _, _, _⟩) rfl (fun K hK => ?_) AllReadyH.nil
      have HLu : Kp _ := ⟨tvL_length a (toldT t)⟩
      refine step_store rwT rfl (.tmp 6) (.tmp 27) rfl rfl rfl HU.out HLu.out (by rw [HZ.out]; decide) (tvL_one _ _) ?_
      intro w56 hk ho
      have HV : Kp (Blk w56 g6 42 (tvL a (toldT t))) := ⟨by have h := hk; rwa [List.drop_of_length_le (by rw [HZ.out]; decide), List.take_zero, List.nil_append, List.append_nil] at h⟩
      replace HT5 : Kp _ := ⟨HT5.out.only ho (.inr rfl)⟩
      refine hK.out _ _ (hHeld.trans (ho.below hge)) (fun hHeld2 => ?_)
      clear hk ho HU
      clear hK K hHeld
      have hHeld := hHeld2
      clear hHeld2
      try simp only [Act.put]
      refine wpAnyH_take (i := 12) (oi := ⟨some 7, _, _, _, _, _⟩) (v := ?_) rfl (by kernel_rfl) (by kernel_rfl) (by kernel_rfl) (fun _ _ _ h => h) (Or.inl ⟨by rfl, by intro w hSw; go_simp; try rfl⟩) (by assumption) ?_
      try simp only [Act.put, List.setIfInBounds_toArray, List.set_cons_zero, List.set_cons_succ]
      refine wpAnyH_done (by kernel_rfl) ?_ _
      have HR5 : Kp _ := ⟨HR2.out.below hHeld HR2.out.lt⟩
      have hB5 := hB2.trans (hHeld.mono hB2.size)
      clear hHeld HR2 HK2 HTl HBl HMl q1 q2
      generalize w56 = w5 at *
      obtain ⟨M5, z1, z2, z3, z4⟩ := HT5.out.ex
      have HT6 : Kp _ := ⟨z3⟩
      have HX6 : Kp _ := ⟨z4⟩
      have HM5 : Kp ((∀ k, ((M k ∨ k = g4) ∨ k = g6) → M5 k) ∧ ∀ k, M5 k → k < w5.heap.size) := ⟨⟨z1, z2⟩⟩
      have HLu : Kp _ := ⟨tvL_length a (toldT t)⟩
      have HTr : Kp ((toldT t).tr.length ≤ 1000000) := ⟨HLe.out.1⟩
      clear z1 z2 z3 z4 HT5
      go_wp2_with (with_reducible refine wpList_loadAll (o := ⟨some 29, _, _, _, _, _⟩) rwT rfl (.tmp 6) rfl rfl HV.out HLu.out ?_)
      refine (rnote_any HT6.out HM5.out.2 HTr.out ⟨3, (k : Int), 0, toldL t l0⟩ HOk.out A5 n5 c5 HX6.out).mono ?_
      rintro e w6 ⟨a6, rfl, hb6, hn6, ht6⟩
      have HN6 : Kp (a6.ln = a.ln) := ⟨hn6⟩
      clear hn6
      have HR6 : Kp _ := ⟨HR5.out.below hb6 HR5.out.lt⟩
      have HX7 : Kp _ := ⟨HX6.out.below hb6⟩
      have hB6 := hB5.trans (hb6.mono hB5.size)
      have ht7 : TvM w6 M5 a6 (tellW t 3 (k : Int) 0 l0) := ht6
      have HT7 : Kp _ := ⟨ht7⟩
      have HLv : Kp _ := ⟨tvL_length a6 (tellW t 3 (k : Int) 0 l0)⟩
      have HOv : Kp _ := ⟨tvL_one a6 (tellW t 3 (k : Int) 0 l0)⟩
      rw [tell_is]
      clear hb6 ht6 ht7 HR5 HX6 HT6 HV HLu hB5
      go_wp2_with (with_reducible refine wpList_storeAll (o := ⟨none, _, _, _, _, _⟩) (vs := tvL a6 (tellW t 3 (k : Int) 0 l0)) rwT rfl (.tmp 4) (.tmp 32) rfl rfl HR6.out HZ.out HLv.out HOv.out rfl ?_)
      intro w7 hk7 ho7
      have HK7 : Kp _ := ⟨hk7⟩
      have hB7 := hB6.trans (ho7.below (Nat.le_of_lt h4))
      have hM4 : ∀ k, k = g4 → M5 k := fun k hk => HM5.out.1 k (.inl (.inr hk))
      have hMM : ∀ k, M k → M5 k ∨ w6.heap.size ≤ k := fun k hk => .inl (HM5.out.1 k (.inl (.inl hk)))
      have HT8 : Kp (TvM w7 M a6 (tellW t 3 (k : Int) 0 l0)) := ⟨HT7.out.chg (Chg.of_only (S := fun k => k = g4) ho7 rfl) hM4 hMM⟩
      have HX8 : Kp (BsM w7 M A5 n5 c5 (toldL t l0)) := ⟨HX7.out.chg (Chg.of_only (S := fun k => k = g4) ho7 rfl) hM4 hMM⟩
      clear hk7 hM4 hMM HT7 HX7 HM5 ho7
      go_wp2
      refine ret_arrB rfl rwT rfl rfl HK7.out (tvL_length _ _) rfl ?_
      rw [HW.out, HLd.out]
      exact ⟨a6, A5, n5, c5, rfl, hB7, HN6.out, HT8.out, HX8.out⟩
  · have HW : Kp (lookW t i = t) := ⟨by unfold lookW; rw [if_neg hth]⟩
    have HLd : Kp (lookL t i = []) := ⟨by unfold lookL; rw [if_neg hth]⟩
    rw [HW.out, HLd.out]
    clear HLe h
    have hcase : t.lost = true ∨ (t.lost = false ∧ (i < 0 ∨ 0 ≤ i ∧ 1 < i)) := by
      unfold sealW at hth
      cases hl : t.lost
      · refine .inr ⟨rfl, ?_⟩
        simp only [hl, Bool.not_false, Bool.true_and, Bool.and_eq_true, decide_eq_true_eq] at hth
        omega
      · exact .inl rfl
    clear hth hi
    go_enter Try.func46, Try.ntmps46
    go_wp2_with (with_reducible refine wpList_box (o := ⟨some 2, _, _, _, _, _⟩) (cs := tvL a t) rfl (.tmp 0) rfl rfl ?_)
    intro w1 hk1 hb1 hs1
    have HK1 : Kp _ := ⟨hk1⟩
    clear hk1 hs1
    go_wp2_with (with_reducible refine wpList_alloc (o := ⟨some 4, _, _, _, _, _⟩) tyT rfl rfl ?_)
    intro w2 hk2 hb2 hs2
    have hl1 : w.heap.size < w1.heap.size := HK1.out.lt
    have HK2 : Kp _ := ⟨HK1.out.below hb2 HK1.out.lt⟩
    have HR2 : Kp _ := ⟨hk2⟩
    have hB2 : Below w.heap.size w w2 := hb1.trans (hb2.mono hb1.size)
    have e8 : w2.cell? ⟨w.heap.size, 8, none⟩ = some (.bool t.lost) := HK2.out.cell? 8
    clear hk2 hb2 hs2 HK1 hb1
    rcases hcase with hlo | ⟨hlo, hlt | ⟨hge, hlt⟩⟩
    all_goals
      rw [hlo] at e8
      go_wp2_with (first
        | (with_reducible refine wpList_loadAll (o := ⟨some 18, _, _, _, _, _⟩) rwT rfl (.tmp 2) rfl rfl HK2.out HL10.out ?_)
        | (with_reducible refine wpList_storeAll (o := ⟨none, _, _, _, _, _⟩) (vs := tvL a t) rwT rfl (.tmp 4) (.tmp 18) rfl rfl HR2.out HZ.out HL10.out HO10.out rfl ?_))
      intro w6 hk6 ho6
      have HK6 : Kp _ := ⟨hk6⟩
      clear hk6
      go_wp2
      refine ret_arrB rfl rwT rfl rfl HK6.out (tvL_length _ _) rfl ?_
      have hBf := hB2.trans (ho6.below (by omega))
      exact ⟨a, none, 0, 0, rfl, hBf, rfl, HT.out.below hBf, BsM.zero _ _⟩
end
end Go.Proofs.Ytpbpegoobgfjcaa
