/-  -/
import Derived.Test.YtcehkafddlfleaaGreatDoorG13
import Derived.Test.YtcehkafddlfleaaGreatDoorG05
namespace Go.Proofs.YtcehkafddlfleaaGreatDoor
open Go.RowKit
section
variable {w w' : World} {B g : Nat} {t : TypeId}
theorem Bs.notvar {A A2 : Option Addr} {n c n2 c2 : Nat} {l : List UInt8} (h : Bs w B A n c l) (hk : Blk w g t [.slice A2 n2 c2]) : ∀ ad, A = some ad → 0 < n → some g ≠ some ad.block := by
 intro ad hA h0 e
 obtain ⟨b, o, hA', _, hc⟩ := h.cells h0
 rw [hA] at hA'
 obtain rfl := Option.some.inj hA'
 obtain rfl := Option.some.inj e
 have h1 := hc 0 (by have := h.len; omega)
 rw [hk.cell?] at h1
 cases o with
 | zero => simp at h1
 | succ o => simp at h1
theorem Bs.setvar {A A2 : Option Addr} {n c n2 c2 : Nat} {l : List UInt8} (h : Bs w B A n c l) (hk : Blk w g t [.slice A2 n2 c2]) (u : Value) : Bs (w.setCell ⟨g, 0, none⟩ u) B A n c l :=
 h.grown (g := some g) (fun k hk2 _ => (Only.setCell w ⟨g, 0, none⟩ u).block k (fun e => hk2 (by rw [e]))) (h.notvar hk)
theorem Fs.setvar {own : Option Nat} {vals : List Value} {fs : List (List UInt8)} {A2 : Option Addr} {n2 c2 : Nat} (h : Fs w B own vals fs) (hk : Blk w g t [.slice A2 n2 c2]) (u : Value) : Fs (w.setCell ⟨g, 0, none⟩ u) B own vals fs :=
 ⟨h.len, fun j h1 h2 => by
  obtain ⟨A, n, c, e, hbs, hg⟩ := h.at' j h1 h2
  exact ⟨A, n, c, e, hbs.setvar hk u, hg⟩⟩
end
structure Fld (W : World) (g base k : Nat) (A : Option Addr) (c : Nat) (fs : List (List UInt8)) : Prop where
 var : Blk W g 33 [.slice A k c]
 lt : g < base
 le : base ≤ W.heap.size
 row : ∃ vals, W.ownsRow base 29 1 (.slice A k c) k vals ∧ Fs W W.heap.size (Value.slice A k c).ownBlock vals fs
section
variable {W W' : World} {g base k c : Nat} {A : Option Addr} {fs : List (List UInt8)}
theorem Fld.below (h : Fld W g base k A c fs) (hb : Below W.heap.size W W') : Fld W' g base k A c fs := by
 obtain ⟨vals, h1, h2⟩ := h.row
 exact ⟨h.var.below hb (by have := h.lt; have := h.le; omega), h.lt, Nat.le_trans h.le hb.size, vals, own_below h1 hb, (h2.below hb).more hb.size⟩
theorem Fld.drew (h : Fld W g base k A c fs) : Fld W.drew g base k A c fs := h.below (Below.refl _ _).drew
theorem Fld.lists (h : Fld W g base k A c fs) : Ls W W.heap.size A k c fs := by
 obtain ⟨vals, h1, h2⟩ := h.row
 obtain ⟨A', c', e, h3⟩ := h2.lists h1 (Nat.le_refl _)
 cases e
 exact h3
theorem Fld.own (h : Fld W g base k A c fs) : ∀ b, (Value.slice A k c).ownBlock = some b → base ≤ b ∧ b < W.heap.size := by
 obtain ⟨vals, h1, _⟩ := h.row
 exact h1.lt
theorem Fld.ap_lo (h : Fld W g base k A c fs) {b : Nat} (hb : b < base) : (Value.slice A k c).ownBlock ≠ some b := fun e => by have := h.own b e; omega
theorem Fld.ap_hi (h : Fld W g base k A c fs) {b : Nat} (hb : W.heap.size ≤ b) : (Value.slice A k c).ownBlock ≠ some b := fun e => by have := h.own b e; omega
end
theorem own_form' {w : World} {B n size : Nat} {e : TypeId} {v : Value} {xs : List Value} (h : w.ownsRow B e size v n xs) : ∃ A c, v = .slice A n c := by
 rcases h.2 with ⟨rfl, rfl⟩ | ⟨g', cap, cur, rfl, _⟩
 ·exact ⟨_, _, rfl⟩
 ·exact ⟨_, _, rfl⟩
theorem Fld.start (w : World) (g : Nat) (hv : Blk w g 33 [.slice none 0 0]) : Fld w g w.heap.size 0 none 0 [] := ⟨hv, hv.lt, Nat.le_refl _, [], own_nil _ _ _, Fs.zero _ _ _⟩
set_option maxRecDepth 100000 in
set_option maxHeartbeats 1000000 in
theorem write1_any {g base k c : Nat} {A : Option Addr} {fs ls : List (List UInt8)} {vals2 : List Value} (M : Addr) (m d : Nat) (w : World) (h : Fld w g base k A c fs) (hl : vals2.length = m)
  (hc : ∀ j u, vals2[j]? = some u → w.cell? (M.add j) = some u) (h1 : ∀ u ∈ vals2, u.oneCell' = true) (hF : Fs w w.heap.size (Value.slice A k c).ownBlock vals2 ls) (hk : k + m ≤ 1000000) :
  Calls Tryz.prog 237 #[.slice (some M) m d, .pointer (some ⟨g, 0, none⟩)] w fun e w' => ∃ A' c', e = .returned (.tuple #[]) ∧ Fld w' g base (k + m) A' c' (fs ++ ls) ∧ Below g w w' := by
 obtain ⟨vals, hown, hfs⟩ := h.row
 have HV : Kp _ := ⟨h.var⟩
 have HLt : Kp (g < base) := ⟨h.lt⟩
 have HLe : Kp (base ≤ w.heap.size) := ⟨h.le⟩
 have HO : Kp _ := ⟨hown⟩
 have HF : Kp _ := ⟨hfs.append hF⟩
 have HC : Kp _ := ⟨hc⟩
 have H1 : Kp _ := ⟨h1⟩
 have HLn : Kp _ := ⟨hl⟩
 have c0 : w.cell? ⟨g, 0, none⟩ = some (.slice A k c) := HV.out.cell? 0
 clear h hown hfs hF hc h1 hl
 go_enter Tryz.func237, Tryz.ntmps237
 go_wp2_with (at_builtin; refine wpList_app elS rfl _ _ rfl base _ k vals rfl HO.out (some M) m d vals2 rfl HLn.out (fun h => by cases h) (fun ad h => by cases h; exact HC.out) H1.out (by simp only [maxLen]; omega) (by omega) HLe.out ?_)
 intro v' w' hown' hg' hv'
 obtain ⟨A', c', rfl⟩ := own_form' hown'
 have hB : Below base w w' := below_of_grown HO.out HLe.out hg'
 have HV2 : Kp _ := ⟨HV.out.below hB HLt.out⟩
 have HF2 : Kp (Fs w' w'.heap.size (Value.slice A' (k + m) c').ownBlock (vals ++ vals2) (fs ++ ls)) := ⟨((HF.out.grown (fun b hb hlt => hg'.block b hlt (fun e => hb e.symm))).move (by
  rcases hv' with e | e
  ·exact .inl e
  ·exact .inr ⟨_, e, Nat.le_refl _⟩)).more hg'.size⟩
 have c1 : w'.cell? ⟨g, 0, none⟩ = some (.slice A k c) := HV2.out.cell? 0
 have f1 : w'.frozen? ⟨g, 0, none⟩ = false := HV2.out.frozen 0
 have HO2 : Kp _ := ⟨hown'⟩
 have HB : Kp _ := ⟨hB⟩
 clear hown' hg' hv' hB c0
 go_wp2
 go_end0
 refine ⟨A', c', rfl, ⟨HV2.out.set 0 _, HLt.out, ?_, vals ++ vals2, ownsRow_setCell_below HO2.out (a := ⟨g, 0, none⟩) HLt.out _, ?_⟩, ?_⟩
 ·have := HB.out.size; have := HLe.out; simp; omega
 ·simpa using HF2.out.setvar HV2.out (.slice A' (k + m) c')
 ·exact (HB.out.mono (Nat.le_of_lt HLt.out)).setCell (p := ⟨g, 0, none⟩) (Nat.le_refl _) _
end Go.Proofs.YtcehkafddlfleaaGreatDoor
