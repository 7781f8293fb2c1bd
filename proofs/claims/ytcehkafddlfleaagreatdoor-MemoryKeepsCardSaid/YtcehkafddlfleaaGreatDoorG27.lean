/-  -/
import Derived.Test.YtcehkafddlfleaaGreatDoorG18
import Derived.Test.YtcehkafddlfleaaGreatDoorG14
import Derived.Deep.LoopGhost
import Derived.WalkMore
namespace Go.Proofs.YtcehkafddlfleaaGreatDoor
open Go.RowKit
def z272w : List UInt8 := List.replicate 272 0
theorem tyCo : Ty Tryz.prog 111 (cells8 z272w) := ⟨by kernel_rfl⟩
def newW (n : Nat) : Wd := { n := n, sl := fun _ => z272w, s0 := [], s1 := [], ctr := 0, lim := false, lost := false, left := 0, reads := 0, lies := fun _ => none, nl := 0, tr := [] }
def ad0 (ms : Nat) : Ad := ⟨ms, none, .slice none 0 0, .slice none 0 0, .slice none 0 0⟩
theorem wd_built (ms : Nat) : (Tryz.prog).built 108 [(0, .map (some ms))] = some (wdCells (ad0 ms) (newW 0)).toArray := by kernel_rfl
def inR2 (i j : Nat) (x : Int × Int) : Bool := decide (0 ≤ x.1 ∧ 0 ≤ x.2 ∧ x.2 < 2 ∧ (x.1 < (i : Int) ∨ x.1 = (i : Int) ∧ x.2 < (j : Int)))
structure NewP (w0 wr : World) (i j : Nat) (p : Int × Int → Option Nat) : Prop where
 map : MapI wr Tryz.prog 113 kvP okP w0.heap.size (2 * i + j) (fun x => (p x).map ptr)
 has : ∀ x, (p x).isSome = inR2 i j x
 own : ∀ x g, p x = some g → w0.heap.size ≤ g
 blk : ∀ x g, p x = some g → Blk wr g 111 (cells8 z272w)
 inj : ∀ x y g, p x = some g → p y = some g → x = y
 world : Blk wr (w0.heap.size + 1) 108 (wdCells (ad0 w0.heap.size) (newW 0))
 below : Below w0.heap.size w0 wr
def NewI (w0 wr : World) (i j : Nat) : Prop := ∃ p, NewP w0 wr i j p
section
variable {w0 wr : World} {i j : Nat}
theorem NewI.next (h : NewI w0 wr i 2) : NewI w0 wr (i + 1) 0 := by
 obtain ⟨p, h⟩ := h
 refine ⟨p, h.map, fun x => (h.has x).trans ?_, h.own, h.blk, h.inj, h.world, h.below⟩
 unfold inR2
 rw [Bool.eq_iff_iff]
 simp only [decide_eq_true_eq]
 omega
theorem NewP.store {p : Int × Int → Option Nat} (h : NewP w0 wr i j p) (hj : j < 2) {w1 w2 : World} (hk : Blk w1 wr.heap.size 111 (cells8 z272w)) (hb : Below wr.heap.size wr w1)
  (hI : MapI w2 Tryz.prog 113 kvP okP w0.heap.size (if ((fun x => (p x).map ptr) ((i : Int), (j : Int))).isSome then 2 * i + j else 2 * i + j + 1) (fun y => if y = ((i : Int), (j : Int)) then some (ptr wr.heap.size) else (p y).map ptr)) (ho : Only w0.heap.size w1 w2) : NewI w0 w2 i (j + 1) := by
 have hn : p ((i : Int), (j : Int)) = none := by
  have h1 := h.has ((i : Int), (j : Int))
  have h2 : inR2 i j ((i : Int), (j : Int)) = false := by
   unfold inR2
   rw [decide_eq_false_iff_not]
   simp only
   omega
  rw [h2] at h1
  simpa using h1
 have hl0 := h.map.lt
 have ne : ∀ {g : Nat} {t : TypeId} {cs : List Value}, Blk w1 g t cs → g ≠ w0.heap.size := fun {g t cs} hk e => by
  subst e
  obtain ⟨es, clock, hh⟩ := h.map.heap
  have := hk.heap
  rw [hb.block _ hl0, hh] at this
  cases this
 refine ⟨fun x => if x = ((i : Int), (j : Int)) then some wr.heap.size else p x, ?_, fun x => ?_, fun x g hg => ?_, fun x g hg => ?_, fun x y g hx hy => ?_, (h.world.below hb h.world.lt).only ho (ne (h.world.below hb h.world.lt)), h.below.trans ((hb.mono h.below.size).trans (ho.below (Nat.le_refl _)))⟩
 ·simp only [hn, Option.map_none, Option.isSome_none] at hI
  have e : (fun y => if y = ((i : Int), (j : Int)) then some (ptr wr.heap.size) else (p y).map ptr) = (fun x => ((if x = ((i : Int), (j : Int)) then some wr.heap.size else p x) : Option Nat).map ptr) := by
   funext y
   by_cases hy : y = ((i : Int), (j : Int)) <;> simp [hy]
  rw [e] at hI
  exact hI
 ·by_cases hx : x = ((i : Int), (j : Int))
  ·rw [if_pos hx, hx]
   unfold inR2
   symm
   rw [Option.isSome_some, decide_eq_true_eq]
   exact ⟨Int.natCast_nonneg _, Int.natCast_nonneg _, by show (j : Int) < 2; omega, .inr ⟨rfl, by show (j : Int) < ((j + 1 : Nat) : Int); omega⟩⟩
  ·rw [if_neg hx, h.has x]
   unfold inR2
   rw [Bool.eq_iff_iff]
   simp only [decide_eq_true_eq]
   have : ¬ (x.1 = (i : Int) ∧ x.2 = (j : Int)) := fun ⟨h1, h2⟩ => hx (Prod.ext h1 h2)
   omega
 ·by_cases hx : x = ((i : Int), (j : Int))
  ·rw [if_pos hx] at hg
   have h1 := Option.some.inj hg
   have h2 := h.below.size
   omega
  ·rw [if_neg hx] at hg
   exact h.own x g hg
 ·by_cases hx : x = ((i : Int), (j : Int))
  ·rw [if_pos hx] at hg
   obtain rfl := Option.some.inj hg
   exact hk.only ho (ne hk)
  ·rw [if_neg hx] at hg
   have h1 := (h.blk x g hg).below hb (h.blk x g hg).lt
   exact h1.only ho (ne h1)
 ·by_cases hx1 : x = ((i : Int), (j : Int)) <;> by_cases hy1 : y = ((i : Int), (j : Int))
  ·rw [hx1, hy1]
  ·rw [if_pos hx1] at hx
   rw [if_neg hy1] at hy
   have h1 := Option.some.inj hx
   have h2 := (h.blk y g hy).lt
   omega
  ·rw [if_neg hx1] at hx
   rw [if_pos hy1] at hy
   have h1 := Option.some.inj hy
   have h2 := (h.blk x g hx).lt
   omega
  ·rw [if_neg hx1] at hx
   rw [if_neg hy1] at hy
   exact h.inj x y g hx hy
theorem NewI.parts {n : Nat} (h : NewI w0 wr n 0) (hn : n ≤ 4096) : ∃ O p, Parts wr O O (w0.heap.size + 1) (ad0 w0.heap.size) (newW n) p [] ∧ ∀ k, O k → w0.heap.size ≤ k := by
 obtain ⟨p, h⟩ := h
 refine ⟨fun k => k = w0.heap.size + 1 ∨ k = w0.heap.size ∨ ∃ x, p x = some k, p, ⟨fun _ h => h, fun k hk => ?_, .inl rfl, h.world, ?_, .inl ⟨rfl, fun _ _ => rfl⟩, ⟨none, 0, 0, rfl, BsM.zero _ _⟩, ⟨none, 0, 0, rfl, BsM.zero _ _⟩, ⟨World.ownsRow_nil _ _ _ _, fun g hg => (by cases hg), TrL.nil _ _⟩, hn, by simp [newW], by simp [newW], by simp [newW], by simp [ad0]⟩, fun k hk => ?_⟩
 ·rcases hk with rfl | rfl | ⟨x, hx⟩
  ·exact h.world.lt
  ·exact h.map.lt
  ·exact (h.blk x k hx).lt
 ·refine ⟨.inr (.inl rfl), h.map, fun x => (h.has x).trans ?_, fun x g hg => .inr (.inr ⟨x, hg⟩), h.blk, fun x g _ => by show z272w.length = 272; simp only [z272w, List.length_replicate], h.inj⟩
  unfold inR2 inR
  rw [Bool.eq_iff_iff]
  simp only [decide_eq_true_eq, Bool.and_eq_true]
  show _ ↔ ((0 ≤ x.1 ∧ x.1 < (n : Int)) ∧ 0 ≤ x.2) ∧ x.2 < 2
  omega
 ·rcases hk with rfl | rfl | ⟨x, hx⟩
  ·omega
  ·omega
  ·exact h.own x k hx
end
set_option maxRecDepth 100000 in
set_option maxHeartbeats 2000000 in
theorem wnew_any (N : Nat) (w : World) (hNb : N ≤ 4096) :
  Calls Tryz.prog 14 #[.int .i64 (N : Int)] w fun e w' => e = .returned (.pointer (some ⟨w.heap.size + 1, 0, none⟩)) ∧ (∃ O p, Parts w' O O (w.heap.size + 1) (ad0 w.heap.size) (newW N) p [] ∧ ∀ k, O k → w.heap.size ≤ k) ∧ Below w.heap.size w w' := by
 have hmm := run_makeMapI (P := Tryz.prog) 97 ((N : Int) * 2) Tryz.underlying97
 have HBu : Kp _ := ⟨wd_built w.heap.size⟩
 have HM0 : Kp _ := ⟨MapI.made w Tryz.prog 113 kvP okP⟩
 have h1 : 0 ≤ (N : Int) := by omega
 have h2 : (N : Int) ≤ 4096 := by omega
 have hw2 : wrap64 ((N : Int) * 2) = (N : Int) * 2 := by unfold wrap64; omega
 go_enter Tryz.func14, Tryz.ntmps14
 go_wp2_with (first | (refine wpList_build1 (o := ⟨some 13, _, _, _, _, _⟩) rfl 0 (.tmp 12) rfl rfl HBu.out ?_) | (with_reducible refine wpList_box (o := ⟨some 14, _, _, _, _, _⟩) (cs := wdCells (ad0 w.heap.size) (newW 0)) rfl (.tmp 13) rfl rfl ?_))
 intro w1 hk1 hb1 hs1
 have hba : Below w.heap.size w (w.alloc (.map #[] 0)) := (Below.refl _ _).alloc (Nat.le_refl _) _
 have h0 : NewI w w1 0 0 := ⟨fun _ => none, HM0.out.stay (hb1.block _ (by simp)), fun x => by unfold inR2; symm; rw [Option.isSome_none, decide_eq_false_iff_not]; omega, fun _ _ h => (by cases h), fun _ _ h => (by cases h), fun _ _ _ h => (by cases h), by simpa using hk1, hba.trans (hb1.mono (by simp))⟩
 have H0 : Kp _ := ⟨h0⟩
 clear hk1 hb1 hs1 h0 hba HM0 HBu
 go_wp2
 go_loopg [16] N (fun gk v16 wr => ∃ i : Nat, i + gk = N ∧ v16 = .int .i64 i ∧ Kp (NewI w wr i 0))
 case atStart => exact ⟨0, by omega, rfl, H0⟩
 case round =>
  obtain ⟨i, hi, rfl, HI⟩ := hrel
  cases gk with
  | zero =>
   have hiN : i = N := by omega
   have hlt : ¬ ((i : Int) < ((N : Nat) : Int)) := by omega
   have HI2 : Kp (NewI w wr N 0) := ⟨hiN ▸ HI.out⟩
   clear hiN HI
   go_wp2
   go_ret
   obtain ⟨O, p, hP, hO⟩ := HI2.out.parts hNb
   obtain ⟨p', hp'⟩ := HI2.out
   exact ⟨rfl, ⟨O, ⟨p, hP⟩, hO⟩, hp'.below⟩
  | succ g2 =>
   have hlt : (i : Int) < ((N : Nat) : Int) := by omega
   have hI6 : (i : Int) < 100000 := by omega
   go_wp2
   go_loopg [19] 2 (fun gj v19 wx => ∃ j : Nat, j + gj = 2 ∧ v19 = .int .i64 j ∧ Kp (NewI w wx i j))
   case atStart => exact ⟨0, by omega, rfl, HI⟩
   case round =>
    clear HI H0
    obtain ⟨j, hj, rfl, HJ⟩ := hrel
    cases gk with
    | zero =>
     obtain rfl : j = 2 := by omega
     go_wp2
     go_roundg g2
     case measure => omega
     case rel => exact ⟨i + 1, by omega, by go_num, ⟨HJ.out.next⟩⟩
    | succ g3 =>
     have hj2 : (j : Int) < 2 := by omega
     have hj3 : j < 2 := by omega
     obtain ⟨p, hp⟩ := HJ.out
     have HP : Kp _ := ⟨hp⟩
     have c0 : wr.cell? ⟨w.heap.size + 1, 0, none⟩ = some (.map (some w.heap.size)) := by rw [hp.world.cell? 0]; rfl
     have HOk : Kp (okP ((i : Int), (j : Int))) := ⟨WalkArith.wf_i64 (by omega), WalkArith.wf_i64 (by omega)⟩
     have HLm : Kp (2 * i + j < maxLen) := ⟨by simp only [maxLen]; omega⟩
     clear hp HJ
     go_wp2_with (with_reducible refine wpList_alloc (o := ⟨some 29, _, _, _, _, _⟩) tyCo rfl rfl ?_)
     intro w3 hk3 hb3 hs3
     obtain ⟨cnt, hcnt⟩ : ∃ cnt, cnt = 2 * i + j := ⟨_, rfl⟩
     obtain ⟨f, hf⟩ : ∃ f : Int × Int → Option Value, f = fun x => (p x).map ptr := ⟨_, rfl⟩
     have hm3 := HP.out.map.stay (hb3.block _ HP.out.map.lt)
     rw [← hcnt, ← hf] at hm3
     have HM3 : Kp _ := ⟨hm3⟩
     have HCf : Kp (cnt = 2 * i + j ∧ f = fun x => (p x).map ptr) := ⟨hcnt, hf⟩
     have HLc : Kp (cnt < maxLen) := ⟨by rw [hcnt]; exact HLm.out⟩
     clear hcnt hf hm3
     have HK3 : Kp _ := ⟨And.intro hk3 hb3⟩
     clear hk3 hb3 hs3
     go_wp2_with (at_mapUpdate; refine wpList_storeI (o := ⟨none, _, _, _, _, _⟩) (u := ptr wr.heap.size) HM3.out keyP rfl (.tmp 25) (.tmp 28) (.tmp 29) rfl Tryz.underlying97 HLc.out rfl ((i : Int), (j : Int)) HOk.out rfl rfl ?_; intro w4 hI4 ho4; rw [HCf.out.1, HCf.out.2] at hI4; have HN4 : Kp _ := ⟨HP.out.store hj3 HK3.out.1 HK3.out.2 hI4 ho4⟩; clear hI4 ho4 HP c0 HM3 HK3 HLm HCf HLc)
     go_roundg g3
     case measure => omega
     case rel => exact ⟨j + 1, by omega, by go_num, HN4⟩
end Go.Proofs.YtcehkafddlfleaaGreatDoor
