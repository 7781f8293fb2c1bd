/- The contracts of Same, Long and Print, the program's and the document's. -/
import Derived.Test.YtaedlaeflliibaaDoorPtR
namespace Go.Proofs.YtaedlaeflliibaaDoor
open Go.RowKit Go.Shelf

section
set_option maxRecDepth 100000
set_option maxHeartbeats 2000000
theorem orSt_any (x : Nm) (g : Nat) (w : World) (h0 : w.cell? ⟨g, 0, none⟩ = some (.string ⟨x.toArray⟩)) (h1 : w.cell? ⟨g, 1, none⟩ = some (.string ⟨#[46]⟩)) :
    Calls Tryd.prog 28 #[.slice (some ⟨g, 0, none⟩) 2 2] w fun e w' => e = .returned (.string ⟨(if x = [] then dotL else x).toArray⟩) ∧ w' = w := by
  have q1 := eqs_str x []
  by_cases hx : x = []
  · subst hx
    go_enter Tryd.func28, Tryd.ntmps28
    go_wp2
    go_loopg [8] 2 (fun gk v8 wr => wr = w ∧ ((gk = 2 ∧ v8 = .int .i64 0) ∨ (gk = 1 ∧ v8 = .int .i64 1)))
    case atStart => exact ⟨rfl, .inl ⟨rfl, rfl⟩⟩
    case round =>
      obtain ⟨rfl, ⟨rfl, rfl⟩ | ⟨rfl, rfl⟩⟩ := hrel
      · go_wp2
        go_roundg 1
        case measure => omega
        case rel => exact ⟨rfl, .inr ⟨rfl, rfl⟩⟩
      · go_wp2
        go_ret
        exact ⟨rfl, rfl⟩
  · have hxe : x.isEmpty = false := by simpa using hx
    rw [show (x == []) = false by simpa using hx] at q1
    have e : (if x = [] then dotL else x) = x := if_neg hx
    rw [e]
    clear e hx
    go_enter Tryd.func28, Tryd.ntmps28
    go_wp2
    go_loopg [8] 1 (fun gk v8 wr => wr = w ∧ gk = 1 ∧ v8 = .int .i64 0)
    case atStart => exact ⟨rfl, rfl, rfl⟩
    case round =>
      obtain ⟨rfl, rfl, rfl⟩ := hrel
      go_wp2
      go_ret
      exact ⟨rfl, rfl⟩
theorem joinSt_any (A : Option Addr) (n c : Nat) (l : List Nm) (w : World) (L : Nat) (ha : Ss w L A n c l) (hL : L ≤ w.heap.size) (hn : longN l ≤ 140737488355328) :
    Calls Tryd.prog 27 #[.slice A n c, .string ⟨#[47]⟩] w fun e w' => e = .returned (.string ⟨(joinP l).toArray⟩) ∧ Below w.heap.size w w' := by
  by_cases h0 : n = 0
  · subst h0
    obtain rfl : l = [] := List.eq_nil_of_length_eq_zero ha.len
    exact (Any.strings_Join_none joinA builderA A c ⟨#[47]⟩ w).mono fun e w' h => ⟨h.1, h.2 ▸ Below.refl _ _⟩
  · obtain ⟨b, o, rfl, hb, hc⟩ := ha.cells (by omega)
    have hm : (l.map fun x => (⟨x.toArray⟩ : ByteArray)).map (·.data.toList) = l := by
      rw [List.map_map]
      conv => rhs; rw [← List.map_id l]
      exact List.map_congr_left fun x _ => by simp
    have h := Any.strings_Join joinA builderA b o c (l.map fun x => (⟨x.toArray⟩ : ByteArray)) ⟨#[47]⟩ w (fun j x hx => by
      rw [List.getElem?_map] at hx
      obtain ⟨y, hy, rfl⟩ := Option.map_eq_some_iff.1 hx
      have hj := (List.getElem?_eq_some_iff.1 hy).1
      rw [hc j hj, (List.getElem?_eq_some_iff.1 hy).2]) (by omega) (by rw [List.length_map]; have := longN_count l; omega) (by rw [List.length_map, ha.len]; exact ha.cap)
      (by rw [hm]; have := joinP_le l; unfold joinP at this; exact Nat.le_trans this hn)
    rw [hm, List.length_map, ha.len] at h
    exact h
theorem samePt_any (b b2 : Bool) (A B : Option Addr) (n c m d : Nat) (xs ys : List Nm) (w : World) (L M : Nat) (ha : Ss w L A n c xs) (hb : Ss w M B m d ys) (hL : L ≤ w.heap.size) (hM : M ≤ w.heap.size) :
    Calls Tryd.prog 21 #[.agg #[.bool b, .slice A n c], .agg #[.bool b2, .slice B m d]] w fun e w' => e = .returned (.bool ((b == b2) && (xs == ys))) ∧ Below w.heap.size w w' := by
  have HA : Kp (∀ W, Below w.heap.size w W → Ss W L A n c xs) := ⟨fun W h => ha.below (h.mono hL)⟩
  have HB : Kp (∀ W, Below w.heap.size w W → Ss W M B m d ys) := ⟨fun W h => hb.below (h.mono hM)⟩
  have h2 : Below w.heap.size w ((w.alloc (.cells #[.bool b, .slice A n c] 25)).alloc (.cells #[.bool b2, .slice B m d] 25)) := ((Below.refl _ w).alloc (Nat.le_refl _) _).alloc (by simp) _
  have H2 : Kp _ := ⟨h2⟩
  clear ha hb h2 hL hM
  cases b <;> cases b2
  all_goals
    go_enter Tryd.func21, Tryd.ntmps21
    go_wp2_with (go_at_call 29; refine (equalSt_any A B n c m d xs ys _ L M (HA.out _ H2.out) (HB.out _ H2.out)).mono ?_; rintro e w' ⟨rfl, hbx⟩; have HB3 : Kp (Below w.heap.size w w') := ⟨H2.out.trans (hbx.mono H2.out.size)⟩; clear hbx)
    go_ret
    first
      | exact ⟨by simp, HB3.out⟩
      | exact ⟨by simp, H2.out⟩
theorem reflong_any (b : Bool) (A : Option Addr) (n c : Nat) (l : List Nm) (w : World) (L : Nat) (ha : Ss w L A n c l) (hL : L ≤ w.heap.size) (hn : longN l ≤ 140737488355328) :
    Calls Tryd.prog 14 #[.agg #[.bool b, .slice A n c]] w fun e w' => e = .returned (.int .i64 (longN l)) ∧ Below w.heap.size w w' := by
  have hb1 : Below w.heap.size w (w.alloc (.cells #[.bool b, .slice A n c] 25)) := (Below.refl _ w).alloc (Nat.le_refl _) _
  have HA : Kp _ := ⟨ha.below (hb1.mono hL)⟩
  have HX : Kp (l.length = n) := ⟨ha.len⟩
  have hn63 := ha.le
  have HK : Kp _ := ⟨Blk.new w 25 [.bool b, .slice A n c]⟩
  have HB1 : Kp _ := ⟨hb1⟩
  clear ha hL hb1
  go_enter Tryd.func14, Tryd.ntmps14
  go_wp2
  have c1 : (w.alloc (.cells #[.bool b, .slice A n c] 25)).cell? ⟨w.heap.size, 1, none⟩ = some (.slice A n c) := HK.out.cell? 1
  obtain ⟨w1, hw1⟩ : ∃ w1, w1 = w.alloc (.cells #[.bool b, .slice A n c] 25) := ⟨_, rfl⟩
  obtain ⟨G, hG⟩ : ∃ G, G = w.heap.size := ⟨_, rfl⟩
  rw [← hw1] at HA HB1 c1 ⊢
  rw [← hG] at c1 ⊢
  clear HK hw1 hG
  go_loopg [3, 4] n (fun gk v3 v4 wr => wr = w1 ∧ ∃ k S : Nat, k + gk = n ∧ v4 = .int .i64 (k : Int) ∧ v3 = .int .i64 (S : Int) ∧ Kp (S = longN (l.take k)))
  case atStart => exact ⟨rfl, 0, 0, by omega, rfl, rfl, ⟨rfl⟩⟩
  case round =>
    obtain ⟨rfl, k, S, hkn, rfl, rfl, HS⟩ := hrel
    cases gk with
    | zero =>
      have hend : ¬ ((k : Int) < (n : Int)) := by omega
      have HV : Kp (S = longN l) := ⟨by rw [HS.out, List.take_of_length_le (by rw [HX.out]; omega)]⟩
      go_wp2
      go_ret
      exact ⟨by rw [← HV.out]; rfl, HB1.out⟩
    | succ g2 =>
      have hgo : (k : Int) < (n : Int) := by omega
      have hin : k < n := by omega
      obtain ⟨b1, o1, rfl, hl1, hc1⟩ := HA.out.at hin
      have hx : k < l.length := by rw [HX.out]; exact hin
      obtain ⟨x, hxe⟩ : ∃ x, x = l[k] := ⟨_, rfl⟩
      rw [← hxe] at hc1
      have HT : Kp (longN (l.take (k + 1)) = S + (x.length + 1)) := ⟨by rw [List.take_succ_eq_append_getElem hx, longN_app, ← hxe, HS.out, longN_cons]; rfl⟩
      have hle : S + (x.length + 1) ≤ 140737488355328 := by
        rw [← HT.out]
        refine Nat.le_trans ?_ hn
        conv => rhs; rw [← List.take_append_drop (k + 1) l, longN_app]
        omega
      have hsz : (ByteArray.mk x.toArray).size = x.length := by simp [ByteArray.size]
      clear hxe
      go_wp2
      go_roundg g2
      case measure => omega
      case rel => exact ⟨rfl, k + 1, S + (x.length + 1), by omega, by go_num, by go_num, ⟨HT.out.symm⟩⟩
end
end Go.Proofs.YtaedlaeflliibaaDoor
