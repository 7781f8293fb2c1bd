/- Join and Same, as the law PathJoins calls them. -/
import Derived.Test.YtaedlaeflliibaaDoorLLast15
import Derived.Test.YtaedlaeflliibaaDoorPtY
namespace Go.Proofs.YtaedlaeflliibaaDoor
open Go.RowKit Go.Shelf Go.Deep

theorem joinL_all (b2 b3 : Bool) (l m r : List Nm) : joinL (b3 || b2) l (joinL b3 m r) = joinL b3 (joinL b2 l m) r := by
  cases b2 <;> cases b3 <;> simp [joinL]
theorem joinL_nil (l : List Nm) : joinL false l [] = l := by simp [joinL]
theorem joinL_top (b : Bool) (l : List Nm) : joinL b [] l = l := by cases b <;> simp [joinL]
theorem joinL_yes (l m : List Nm) : joinL true l m = m := rfl
theorem joinL_long (b : Bool) (l m : List Nm) : (joinL b l m).length ≤ l.length + m.length := by cases b <;> simp [joinL]
theorem Ss.apart {w w' : World} {B n c g : Nat} {A : Option Addr} {l : List Nm} (h : Ss w B A n c l) (hk : Blk w g 25 zeroPt) (ho : Only g w w') : Ss w' B A n c l := by
  refine ⟨h.len, h.cap, h.max, h.nil, h.ok, fun h0 => ?_⟩
  obtain ⟨b, o, hA, hb, hc⟩ := h.cells h0
  have hbg : b ≠ g := by
    rintro rfl
    have h1 := hc 0 (by have := h.len; omega)
    have h2 := hk.cell? (o + 0)
    rw [h1] at h2
    match o, h2 with
    | 0, h2 => cases h2
    | 1, h2 => cases h2
    | k + 2, h2 => rw [List.getElem?_eq_none (by simp [zeroPt])] at h2; cases h2
  refine ⟨b, o, hA, hb, fun j hj => ?_⟩
  rw [← hc j hj]
  exact World.cell?_of_block (w := w) (ho.block b hbg)
theorem joinPt_as (b b2 : Bool) (A B : Option Addr) (n c m d : Nat) (xs ys : List Nm) (w : World) (L M : Nat) (ha : Ss w L A n c xs) (hb : Ss w M B m d ys) (hL : L ≤ w.heap.size) (hM : M ≤ w.heap.size) (hn : xs.length + ys.length ≤ 4000) (F : Bool) (hF : (b2 || b) = F) (Z : List Nm) (hZ : joinL b2 xs ys = Z) :
    Calls Tryd.prog 19 #[.agg #[.bool b, .slice A n c], .agg #[.bool b2, .slice B m d]] w fun e w' => ∃ A' n' c', e = .returned (.agg #[.bool F, .slice A' n' c']) ∧ Ss w' w'.heap.size A' n' c' Z ∧ Below w.heap.size w w' := by
  subst hF hZ
  exact joinPt_any b b2 A B n c m d xs ys w L M ha hb hL hM (by have := ha.len; have := hb.len; omega)
theorem samePt_yes (b : Bool) (A B : Option Addr) (n c m d : Nat) (xs : List Nm) (w : World) (L M : Nat) (ha : Ss w L A n c xs) (hb : Ss w M B m d xs) (hL : L ≤ w.heap.size) (hM : M ≤ w.heap.size) :
    Calls Tryd.prog 21 #[.agg #[.bool b, .slice A n c], .agg #[.bool b, .slice B m d]] w fun e w' => e = .returned (.bool true) ∧ Below w.heap.size w w' :=
  (samePt_any b b A B n c m d xs xs w L M ha hb hL hM).mono fun e w' ⟨h1, h2⟩ => ⟨by rw [h1, same_self], h2⟩
end Go.Proofs.YtaedlaeflliibaaDoor
