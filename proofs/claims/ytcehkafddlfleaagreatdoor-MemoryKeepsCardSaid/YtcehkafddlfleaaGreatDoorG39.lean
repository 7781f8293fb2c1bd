/- 
   
   
    -/
import Derived.Test.YtcehkafddlfleaaGreatDoorG29
import Derived.Test.YtcehkafddlfleaaGreatDoorG38
import Derived.Test.YtcehkafddlfleaaGreatDoorG02
import Derived.Test.YtcehkafddlfleaaGreatDoorG31
import Derived.Test.YtcehkafddlfleaaGreatDoorG34
import Derived.Deep.RegionHeld3
namespace Go.Proofs.YtcehkafddlfleaaGreatDoor
open Go.RowKit
structure Keep (Om : Nat → Prop) (w w' : World) : Prop where
 size : w.heap.size ≤ w'.heap.size
 block : ∀ j, Om j → w'.heap[j]? = w.heap[j]?
structure StM (w0 w : World) (k b : Nat) (t : Wd) (Om : Nat → Prop) (hs : List Held) : Prop where
 is : ∃ M O ad p L, Parts w O M b ad t p L ∧ (∀ j, Om j → M j ∧ ¬ O j) ∧ (∀ j, M j → w0.heap.size ≤ j) ∧ ∀ h ∈ hs, BsM w M h.1 h.2.1 h.2.2.1 h.2.2.2
 below : Below w0.heap.size w0 w
 small : Sm k t
section
variable {w0 w w' w2 : World} {k b g : Nat} {t t' : Wd} {Om Om' : Nat → Prop} {hs : List Held} {A : Option Addr} {n c : Nat} {l : List UInt8}
theorem Keep.refl (Om : Nat → Prop) (w : World) : Keep Om w w := ⟨Nat.le_refl _, fun _ _ => rfl⟩
theorem Keep.trans (h : Keep Om w w') (h2 : Keep Om w' w2) : Keep Om w w2 := ⟨Nat.le_trans h.size h2.size, fun j hj => (h2.block j hj).trans (h.block j hj)⟩
theorem Keep.blk {e : TypeId} {cs : List Value} (h : Keep Om w w') (hk : Blk w g e cs) (hg : Om g) : Blk w' g e cs := ⟨(h.block g hg).trans hk.heap⟩
theorem Keep.drew (h : Keep Om w w') : Keep Om w w'.drew := ⟨h.size, h.block⟩
theorem Keep.less (h : Keep Om w w') (hO : ∀ j, Om' j → Om j) : Keep Om' w w' := ⟨h.size, fun j hj => h.block j (hO j hj)⟩
theorem StM.lt (h : StM w0 w k b t Om hs) {j : Nat} (hj : Om j) : w0.heap.size ≤ j ∧ j < w.heap.size := by
 obtain ⟨M, O, ad, p, L, hP, h1, h2, _⟩ := h.is
 exact ⟨h2 j (h1 j hj).1, hP.lt j (h1 j hj).1⟩
theorem StM.keepBelow (h : StM w0 w k b t Om hs) (hb : Below w.heap.size w w') : Keep Om w w' := ⟨hb.size, fun _ hj => hb.block _ (h.lt hj).2⟩
theorem StM.held (h : StM w0 w k b t Om hs) (hm : (A, n, c, l) ∈ hs) : Bs w w.heap.size A n c l ∧ n ≤ 4294967296 := by
 obtain ⟨M, O, ad, p, L, hP, _, _, hh⟩ := h.is
 exact ⟨(hh _ hm).bs, (hh _ hm).fit⟩
theorem StM.more {k' : Nat} (h : StM w0 w k b t Om hs) (hk : k ≤ k') : StM w0 w k' b t Om hs := ⟨h.is, h.below, ⟨Nat.le_trans h.small.tr hk, Nat.le_trans h.small.reads hk, Nat.le_trans h.small.nl hk⟩⟩
theorem StM.forget {hs' : List Held} (h : StM w0 w k b t Om hs) (hsub : ∀ x ∈ hs', x ∈ hs) : StM w0 w k b t Om hs' := by
 obtain ⟨M, O, ad, p, L, hP, h1, h2, hh⟩ := h.is
 exact ⟨⟨M, O, ad, p, L, hP, h1, h2, fun x hx => hh x (hsub x hx)⟩, h.below, h.small⟩
theorem StM.less (h : StM w0 w k b t Om hs) (hO : ∀ j, Om' j → Om j) : StM w0 w k b t Om' hs := by
 obtain ⟨M, O, ad, p, L, hP, h1, h2, hh⟩ := h.is
 exact ⟨⟨M, O, ad, p, L, hP, fun j hj => h1 j (hO j hj), h2, hh⟩, h.below, h.small⟩
theorem StM.hold (h : StM w0 w k b t Om hs) (ha : Bs w0 w0.heap.size A n c l) (hn : n ≤ 4294967296) : StM w0 w k b t Om ((A, n, c, l) :: hs) := by
 obtain ⟨M, O, ad, p, L, hP, h1, h2, hh⟩ := h.is
 refine ⟨⟨M, O, ad, p, L, hP, h1, h2, fun x hx => ?_⟩, h.below, h.small⟩
 rcases List.mem_cons.1 hx with rfl | hx
 ·exact BsM.of_bs (ha.below h.below) h.below.size h2 hn
 ·exact hh x hx
theorem StM.grow (h : StM w0 w k b t Om hs) (hb : Below w.heap.size w w') : StM w0 w' k b t Om hs := by
 obtain ⟨M, O, ad, p, L, hP, h1, h2, hh⟩ := h.is
 exact ⟨⟨M, O, ad, p, L, hP.below hb, h1, h2, fun x hx => (hh x hx).below hb⟩, h.below.trans (hb.mono h.below.size), h.small⟩
theorem StM.drew (h : StM w0 w k b t Om hs) : StM w0 w.drew k b t Om hs := h.grow (Below.refl _ _).drew
theorem StM.growHold (h : StM w0 w k b t Om hs) (hb : Below w.heap.size w w') (hB : BsN w.heap.size w' A n c l) (hn : n ≤ 4294967296) : StM w0 w' k b t Om ((A, n, c, l) :: hs) := by
 obtain ⟨M, O, ad, p, L, hP, h1, h2, hh⟩ := h.is
 refine ⟨⟨M, O, ad, p, L, hP.below hb, h1, h2, fun x hx => ?_⟩, h.below.trans (hb.mono h.below.size), h.small⟩
 rcases List.mem_cons.1 hx with rfl | hx
 ·exact ⟨hB.bs, fun ad hA _ hm => by have := hB.fr ad hA; have := hP.lt _ hm; omega, hn⟩
 ·exact (hh x hx).below hb
theorem StM.growOwn (h : StM w0 w k b t Om hs) (hb : Below w.heap.size w w') (hg : w.heap.size ≤ g ∧ g < w'.heap.size) : StM w0 w' k b t (fun j => Om j ∨ j = g) hs := by
 obtain ⟨M, O, ad, p, L, hP, h1, h2, hh⟩ := h.is
 have hM : ∀ j, (fun j => M j ∨ j = g) j → M j ∨ w.heap.size ≤ j := fun j hj => hj.imp id (fun e => by rw [e]; exact hg.1)
 refine ⟨⟨fun j => M j ∨ j = g, O, ad, p, L, hP.chg (S := fun _ => False) (Chg.of_below _ hb) (fun _ h => h.elim) (fun _ h => h.elim) hM (fun _ h => .inl h) (fun j hj => ?_), fun j hj => ?_, fun j hj => ?_, fun x hx => (hh x hx).chg (S := fun _ => False) (Chg.of_below _ hb) (fun _ h => h.elim) hM⟩, h.below.trans (hb.mono h.below.size), h.small⟩
 ·rcases hj with h9 | h9
  ·exact Nat.lt_of_lt_of_le (hP.lt j h9) hb.size
  ·rw [h9]; exact hg.2
 ·rcases hj with h9 | h9
  ·exact ⟨.inl (h1 j h9).1, (h1 j h9).2⟩
  ·exact ⟨.inr h9, fun ho => by have := hP.lt j (hP.sub j ho); omega⟩
 ·rcases hj with h9 | h9
  ·exact h2 j h9
  ·have := h.below.size; omega
theorem StM.only (h : StM w0 w k b t Om hs) (ho : Only g w w') (hg : Om g) : StM w0 w' k b t Om hs := by
 obtain ⟨M, O, ad, p, L, hP, h1, h2, hh⟩ := h.is
 have C : Chg (fun j => j = g) w w' := Chg.of_only ho rfl
 exact ⟨⟨M, O, ad, p, L, hP.chg C (fun j e ho => (h1 g hg).2 (e ▸ ho)) (fun j e => e ▸ (h1 g hg).1) (fun _ h => .inl h) (fun _ h => h) (fun j hj => by rw [ho.size]; exact hP.lt j hj), h1, h2, fun x hx => (hh x hx).chg C (fun j e => e ▸ (h1 g hg).1) (fun _ h => .inl h)⟩, h.below.trans (ho.below (h2 g (h1 g hg).1)), h.small⟩
theorem Keep.only (ho : Only g w w') (hg : ¬ Om g) : Keep Om w w' := ⟨by rw [ho.size]; exact Nat.le_refl _, fun j hj => ho.block j (fun e => hg (e ▸ hj))⟩
theorem StM.use (h : StM w0 w k b t Om hs) : ∃ O M ad p L, Parts w O M b ad t p L ∧ (∀ x ∈ hs, BsM w M x.1 x.2.1 x.2.2.1 x.2.2.2) ∧
  ∀ w' O' ad' t' p' L', Parts w' O' (Or2 M O') b ad' t' p' L' → Nx w O w' O' → Sm (k + 1) t' → (StM w0 w' (k + 1) b t' Om hs ∧ Keep Om w w') ∧ ∀ A n c l, BsM w' (Or2 M O') A n c l → StM w0 w' (k + 1) b t' Om ((A, n, c, l) :: hs) := by
 obtain ⟨M, O, ad, p, L, hP, h1, h2, hh⟩ := h.is
 refine ⟨O, M, ad, p, L, hP, hh, fun w' O' ad' t' p' L' hP' hN hS => ?_⟩
 have hM := or2_new hP.sub hN
 have hOm : ∀ j, Om j → Or2 M O' j ∧ ¬ O' j := fun j hj => ⟨.inl (h1 j hj).1, fun ho => by
  rcases hN.new j ho with h9 | h9
  ·exact (h1 j hj).2 h9
  ·have := hP.lt j (h1 j hj).1; omega⟩
 have h0 : ∀ j, Or2 M O' j → w0.heap.size ≤ j := fun j hj => (hM j hj).elim (h2 j) (fun h9 => Nat.le_trans h.below.size h9)
 have hB : Below w0.heap.size w0 w' := h.below.trans (hN.chg.below (fun j hj => h2 j (hP.sub j hj)) h.below.size)
 have hK : Keep Om w w' := ⟨hN.chg.size, fun j hj => hN.chg.block j (hP.lt j (h1 j hj).1) (h1 j hj).2⟩
 refine ⟨⟨⟨⟨Or2 M O', O', ad', p', L', hP', hOm, h0, fun x hx => (hh x hx).nx hP.sub hN⟩, hB, hS⟩, hK⟩, fun A n c l hb => ⟨⟨Or2 M O', O', ad', p', L', hP', hOm, h0, fun x hx => ?_⟩, hB, hS⟩⟩
 rcases List.mem_cons.1 hx with rfl | hx
 ·exact hb
 ·exact (hh x hx).nx hP.sub hN
theorem sw_new (w : World) (N : Nat) (hN : N ≤ 4096) :
  Calls Tryz.prog 14 #[.int .i64 (N : Int)] w fun e w' => ∃ b, e = .returned (.pointer (some ⟨b, 0, none⟩)) ∧ StM w w' 0 b (newW N) (fun _ => False) [] := by
 refine (wnew_any N w hN).mono ?_
 rintro e w' ⟨rfl, ⟨O, p, hP, hO⟩, hb⟩
 exact ⟨_, rfl, ⟨O, O, _, p, _, hP, fun _ h => h.elim, hO, fun _ h => by cases h⟩, hb, ⟨Nat.zero_le _, Nat.zero_le _, Nat.zero_le _⟩⟩
theorem sw_read (h : StM w0 w k b t Om hs) (hk : k ≤ 1000000) (x y : Int) (hx : okP (x, y)) :
  Calls Tryz.prog 150 #[.pointer (some ⟨b, 0, none⟩), .int .i64 x, .int .i64 y] w fun e w' => ∃ A n c, e = .returned (.slice A n c) ∧ StM w0 w' (k + 1) b (readW t (x, y)) Om ((A, n, c, readLw t (x, y)) :: hs) ∧ Keep Om w w' := by
 obtain ⟨O, M, ad, p, L, hP, _, hU⟩ := h.use
 refine (wread_any hP x y hx (Nat.le_trans h.small.tr hk) (Nat.le_trans h.small.reads hk)).mono ?_
 rintro e w' ⟨A, n, c, ad', L', O', rfl, hP', hN, hB⟩
 have h9 := hU _ _ _ _ _ _ hP' hN (sm_read h.small _)
 exact ⟨A, n, c, rfl, h9.2 _ _ _ _ hB, h9.1.2⟩
theorem sw_look (h : StM w0 w k b t Om hs) (hk : k ≤ 1000000) (i : Int) :
  Calls Tryz.prog 87 #[.pointer (some ⟨b, 0, none⟩), .int .i64 i] w fun e w' => ∃ A n c, e = .returned (.slice A n c) ∧ StM w0 w' (k + 1) b (lookW t i) Om ((A, n, c, lookL t i) :: hs) ∧ Keep Om w w' := by
 obtain ⟨O, M, ad, p, L, hP, _, hU⟩ := h.use
 refine (look_any hP i (Nat.le_trans h.small.tr hk) (Nat.le_trans h.small.reads hk)).mono ?_
 rintro e w' ⟨A, n, c, ad', L', O', rfl, hP', hN, hB⟩
 have h9 := hU _ _ _ _ _ _ hP' hN (sm_look h.small _)
 exact ⟨A, n, c, rfl, h9.2 _ _ _ _ hB, h9.1.2⟩
theorem sw_write (h : StM w0 w k b t Om hs) (hk : k ≤ 1000000) (x y : Int) (hx : okP (x, y)) (hm : (A, n, c, l) ∈ hs) :
  Calls Tryz.prog 141 #[.pointer (some ⟨b, 0, none⟩), .int .i64 x, .int .i64 y, .slice A n c] w fun e w' => e = .returned (.bool (writeB t (x, y))) ∧ StM w0 w' (k + 1) b (writeW t (x, y) l) Om hs ∧ Keep Om w w' := by
 obtain ⟨O, M, ad, p, L, hP, hH, hU⟩ := h.use
 refine (wwrite_any hP x y hx A n c l (hH _ hm) (Nat.le_trans h.small.tr hk)).mono ?_
 rintro e w' ⟨ad', L', O', rfl, hP', hN⟩
 exact ⟨rfl, (hU _ _ _ _ _ _ hP' hN (sm_write h.small _ _)).1⟩
theorem sw_seal (h : StM w0 w k b t Om hs) (hk : k ≤ 1000000) (i : Int) (hm : (A, n, c, l) ∈ hs) :
  Calls Tryz.prog 146 #[.pointer (some ⟨b, 0, none⟩), .int .i64 i, .slice A n c] w fun e w' => e = .returned (.bool (sealB t i l)) ∧ StM w0 w' (k + 1) b (sealedW t i l) Om hs ∧ Keep Om w w' := by
 obtain ⟨O, M, ad, p, L, hP, hH, hU⟩ := h.use
 refine (seal_any hP i A n c l (hH _ hm) (Nat.le_trans h.small.tr hk)).mono ?_
 rintro e w' ⟨rfl, ad', L', O', hP', hN⟩
 exact ⟨rfl, (hU _ _ _ _ _ _ hP' hN (sm_seal h.small _ _)).1⟩
theorem sw_bump (h : StM w0 w k b t Om hs) (hk : k ≤ 1000000) :
  Calls Tryz.prog 137 #[.pointer (some ⟨b, 0, none⟩)] w fun e w' => e = .returned (.bool (bumpB t)) ∧ StM w0 w' (k + 1) b (bumpW t) Om hs ∧ Keep Om w w' := by
 obtain ⟨O, M, ad, p, L, hP, _, hU⟩ := h.use
 refine (bump_any hP (Nat.le_trans h.small.tr hk)).mono ?_
 rintro e w' ⟨rfl, ad', L', O', hP', hN⟩
 exact ⟨rfl, (hU _ _ _ _ _ _ hP' hN (sm_bump h.small)).1⟩
theorem sw_counter (h : StM w0 w k b t Om hs) :
  Calls Tryz.prog 82 #[.pointer (some ⟨b, 0, none⟩)] w fun e w' => e = .returned (.int .u64 (ctrW t : Int)) ∧ w' = w := by
 obtain ⟨O, M, ad, p, L, hP, _⟩ := h.use
 exact counter_any hP
theorem sw_dead (h : StM w0 w k b t Om hs) :
  Calls Tryz.prog 88 #[.pointer (some ⟨b, 0, none⟩)] w fun e w' => e = .returned (.bool t.lost) ∧ w' = w := by
 obtain ⟨O, M, ad, p, L, hP, _⟩ := h.use
 exact dead_any b ad t w hP.blk
set_option maxHeartbeats 400000 in
theorem wblocks_any {O M : Nat → Prop} {ad : Ad} {p : Int × Int → Option Nat} {L : List Hd4} (h : Parts w O M b ad t p L) :
  Calls Tryz.prog 47 #[.pointer (some ⟨b, 0, none⟩)] w fun e w' => e = .returned (.int .i64 (t.n : Int)) ∧ w' = w := by
 have c0 : w.cell? ⟨b, 0, none⟩ = some (.map (some ad.ms)) := by rw [h.blk.cell? 0]; rfl
 have HM : Kp _ := ⟨h.slots.map⟩
 have hbig := h.big
 have hq : wrap64 (((2 * t.n : Nat) : Int).tdiv 2) = (t.n : Int) := by
  have : ((2 * t.n : Nat) : Int).tdiv 2 = (t.n : Int) := by rw [Int.tdiv_eq_ediv_of_nonneg (by omega)]; omega
  rw [this]; unfold wrap64; omega
 clear h
 go_enter Tryz.func47, Tryz.ntmps47
 go_wp2_with (with_reducible refine wpList_lenI (o := ⟨some _, _, _, _, _, _⟩) HM.out rfl (.tmp _) rfl Tryz.underlying97 rfl ?_)
 go_ret
 exact ⟨rfl, rfl⟩
theorem sw_blocks (h : StM w0 w k b t Om hs) :
  Calls Tryz.prog 47 #[.pointer (some ⟨b, 0, none⟩)] w fun e w' => e = .returned (.int .i64 (t.n : Int)) ∧ w' = w := by
 obtain ⟨O, M, ad, p, L, hP, _⟩ := h.use
 exact wblocks_any hP
end
end Go.Proofs.YtcehkafddlfleaaGreatDoor

namespace Go.Proofs.YtcehkafddlfleaaGreatDoor
open Go.RowKit
section
variable {P : Program} {a : Act} {w : World} {t : TypeId}
theorem ret_arrC {fn : Func} {R : Ending → World → Prop} {p q r : Tmp} {d : TypeDesc} {n : Nat} (hr : fn.results = #[.cell p t, .tmp q, .tmp r]) (E : Rw P t d n) {g : Nat} {t' : TypeId} {cs : List Value} {v2 v3 : Value} (hx : a.tmps.getD p undef = .pointer (some ⟨g, 0, none⟩)) (hq : a.tmps.getD q undef = v2) (hq3 : a.tmps.getD r undef = v3) (hb : Blk w g t' cs) (hn : cs.length = n) (hd : a.defers = [])
  (h : R (.returned (.tuple #[.agg cs.toArray, v2, v3])) w) : bodyPost P fn R .ret a w := by
 have hl := run_load_rw (w := w) E hb (off := 0) (by omega)
 simp only [Instr.loadAt, Instr.sureAddr, Sem.run_bind, Sem.run_pure, Result.andThen_ok] at hl
 have e : (cs.drop 0).take n = cs := by rw [List.drop_zero, List.take_of_length_le (by omega)]
 rw [e] at hl
 have hx' : a.tmps[p]?.getD undef = .pointer (some ⟨g, 0, none⟩) := by simpa using hx
 have hq' : a.tmps[q]?.getD undef = v2 := by simpa using hq
 have hr' : a.tmps[r]?.getD undef = v3 := by simpa using hq3
 exact bodyPost_ret (v := .tuple #[.agg cs.toArray, v2, v3]) (by simp only [results, hr]; simp [hx', hq', hr', asAddr, hl]) hd h
end
theorem BsN.next {L : Nat} {w w' : World} {A : Option Addr} {n c : Nat} {l : List UInt8} (h : BsN L w A n c l) (hb : Below w.heap.size w w') : BsN L w' A n c l := ⟨h.bs.next hb (Nat.le_refl _), h.fr⟩
theorem BsN.only {L g : Nat} {w w' : World} {A : Option Addr} {n c : Nat} {l : List UInt8} (h : BsN L w A n c l) (ho : Only g w w') (hg : g < L) : BsN L w' A n c l :=
 ⟨⟨h.bs.len, h.bs.cap, h.bs.max, h.bs.nil, fun h0 => by
  obtain ⟨b, o, hA, hb, hc⟩ := h.bs.cells h0
  have h1 := h.fr _ hA
  exact ⟨b, o, hA, by rw [ho.size]; exact hb, fun j hj => (World.cell?_of_block (w := w) (ho.block b (by simp at h1; omega))).trans (hc j hj)⟩⟩, h.fr⟩
theorem BsN.other {L g : Nat} {w w' : World} {A : Option Addr} {n c : Nat} {l : List UInt8} (h : BsN L w A n c l) (ho : Only g w w') (hg : ∀ ad, A = some ad → ad.block ≠ g) : BsN L w' A n c l :=
 ⟨⟨h.bs.len, h.bs.cap, h.bs.max, h.bs.nil, fun h0 => by
  obtain ⟨b, o, hA, hb, hc⟩ := h.bs.cells h0
  exact ⟨b, o, hA, by rw [ho.size]; exact hb, fun j hj => (World.cell?_of_block (w := w) (ho.block b (hg _ hA))).trans (hc j hj)⟩⟩, h.fr⟩
theorem BsN.drew {L : Nat} {w : World} {A : Option Addr} {n c : Nat} {l : List UInt8} (h : BsN L w A n c l) : BsN L w.drew A n c l := ⟨h.bs.drew, h.fr⟩
def labH : List UInt8 := [104, 105, 100, 101]
def labM : List UInt8 := [115, 117, 109]
def labS : List UInt8 := [115, 101, 97, 108]
def hideK (m : List UInt8) : List UInt8 := deriveL m labH 16
def sumK (m : List UInt8) : List UInt8 := deriveL m labM 32
def sealK (m : List UInt8) : List UInt8 := deriveL m labS 32
theorem deriveL_length (key lab : List UInt8) (n : Int) (i : Nat) (h : clipN n ≤ 32 * i) : (deriveL key lab n).length = clipN n := by
 rw [← tags_any key lab n i h, List.length_take, tagsL_length]; omega
theorem clip16 : clipN 16 = 16 := by decide
theorem clip32 : clipN 32 = 32 := by decide
theorem derive16 (A : Option Addr) (m c : Nat) (key : List UInt8) (w : World) (ha : Bs w w.heap.size A m c key) (hm : m ≤ 524288) :
  Calls Tryz.prog 68 #[.slice A m c, .string ⟨#[104, 105, 100, 101]⟩, .int .i64 16] w fun e w' => ∃ A' c', e = .returned (.slice A' 16 c') ∧ BsN w.heap.size w' A' 16 c' (hideK key) ∧ Below w.heap.size w w' := by
 have h := derive_any A m c key labH 16 w ha hm (by decide)
 rw [clip16] at h
 exact h
theorem derive32M (A : Option Addr) (m c : Nat) (key : List UInt8) (w : World) (ha : Bs w w.heap.size A m c key) (hm : m ≤ 524288) :
  Calls Tryz.prog 68 #[.slice A m c, .string ⟨#[115, 117, 109]⟩, .int .i64 32] w fun e w' => ∃ A' c', e = .returned (.slice A' 32 c') ∧ BsN w.heap.size w' A' 32 c' (sumK key) ∧ Below w.heap.size w w' := by
 have h := derive_any A m c key labM 32 w ha hm (by decide)
 rw [clip32] at h
 exact h
theorem derive32S (A : Option Addr) (m c : Nat) (key : List UInt8) (w : World) (ha : Bs w w.heap.size A m c key) (hm : m ≤ 524288) :
  Calls Tryz.prog 68 #[.slice A m c, .string ⟨#[115, 101, 97, 108]⟩, .int .i64 32] w fun e w' => ∃ A' c', e = .returned (.slice A' 32 c') ∧ BsN w.heap.size w' A' 32 c' (sealK key) ∧ Below w.heap.size w w' := by
 have h := derive_any A m c key labS 32 w ha hm (by decide)
 rw [clip32] at h
 exact h
def z16 : List UInt8 := List.replicate 16 0
theorem tyKey : Ty Tryz.prog 76 (cells8 z16) := ⟨by kernel_rfl⟩
set_option maxRecDepth 100000 in
set_option maxHeartbeats 4000000 in
theorem mkeys_any (A : Option Addr) (n c : Nat) (key : List UInt8) (w : World) (ha : Bs w w.heap.size A n c key) (hn : n ≤ 524288) :
  Calls Tryz.prog 32 #[.slice A n c] w fun e w' => ∃ B d C f, e = .returned (.tuple #[.agg (cells8 (hideK key)).toArray, .slice B 32 d, .slice C 32 f]) ∧ BsN w.heap.size w' B 32 d (sumK key) ∧ BsN w.heap.size w' C 32 f (sealK key) ∧ Below w.heap.size w w' := by
 have HA : Kp _ := ⟨ha⟩
 have HN : Kp _ := ⟨hn⟩
 have HLh : Kp ((cells8 (hideK key)).length = 16) := ⟨by rw [cells8_length]; unfold hideK; rw [deriveL_length _ _ _ 1 (by decide)]; decide⟩
 have HZ : Kp ((cells8 z16).length = 16) := ⟨by rw [cells8_length]; rfl⟩
 have HO : Kp _ := ⟨cells8_one (hideK key)⟩
 clear ha hn
 go_enter Tryz.func32, Tryz.ntmps32
 go_wp2_with (with_reducible refine wpList_alloc (o := ⟨some 2, _, _, _, _, _⟩) tyKey rfl rfl ?_)
 intro w1 hk1 hb1 hs1
 have HK1 : Kp _ := ⟨hk1⟩
 have HA1 : Kp _ := ⟨HA.out.next hb1 (Nat.le_refl _)⟩
 have HB1 : Kp _ := ⟨hb1⟩
 clear hk1 hb1 hs1
 go_wp2_with fail
 refine (derive16 A n c key w1 HA1.out HN.out).mono ?_
 rintro e w2 ⟨A2, c2, rfl, hB2, hb2⟩
 have HR2 : Kp (∃ g o, A2 = some ⟨g, o, none⟩ ∧ w2.rangeAt g o (cells8 (hideK key))) := ⟨by
  obtain ⟨g, o, hA, hg, hc⟩ := hB2.bs.cells (by omega)
  exact ⟨g, o, hA, fun j v hv => by
   have hj : j < (hideK key).length := by have := (List.getElem?_eq_some_iff.1 hv).1; rwa [cells8_length] at this
   rw [hc j hj]; rw [cells8_at _ _ hj] at hv; exact hv⟩⟩
 obtain ⟨gk, ok, hAk, hrk⟩ := HR2.out
 subst hAk
 have HRk : Kp _ := ⟨hrk⟩
 have HK2 : Kp _ := ⟨HK1.out.below hb2 HK1.out.lt⟩
 have HA2 : Kp _ := ⟨HA1.out.next hb2 (Nat.le_refl _)⟩
 have HB2 : Kp _ := ⟨HB1.out.trans (hb2.mono HB1.out.size)⟩
 clear hB2 hb2 HR2 hrk HK1 HA1 HB1
 go_wp2_with (first | (with_reducible refine wpList_toArr (o := ⟨some 8, _, _, _, _, _⟩) (N := 16) Tryz.underlying76 rfl (.tmp 7) rfl rfl (Nat.le_refl _) ?_) | (with_reducible refine wpList_loadR (o := ⟨some 9, _, _, _, _, _⟩) rwKey rfl (.tmp 8) rfl rfl HRk.out HLh.out ?_) | (with_reducible refine wpList_alloc (o := ⟨some 5, _, _, _, _, _⟩) tyKey rfl rfl ?_))
 intro w3 hk3 hb3 hs3
 have HK3 : Kp _ := ⟨hk3⟩
 have HK23 : Kp _ := ⟨HK2.out.below hb3 HK2.out.lt⟩
 have HA3 : Kp _ := ⟨HA2.out.next hb3 (Nat.le_refl _)⟩
 have HB3 : Kp _ := ⟨HB2.out.trans (hb3.mono HB2.out.size)⟩
 have hne : w.heap.size < w2.heap.size := HK2.out.lt
 obtain ⟨g5, hg5⟩ : ∃ g, g = w2.heap.size := ⟨_, rfl⟩
 rw [← hg5] at HK3 hne ⊢
 clear hk3 hb3 hs3 HK2 HA2 HB2 HRk hg5
 go_wp2_with (with_reducible refine wpList_storeAll (o := ⟨none, _, _, _, _, _⟩) (vs := cells8 (hideK key)) rwKey rfl (.tmp 5) (.tmp 9) rfl rfl HK3.out HZ.out HLh.out HO.out rfl ?_)
 intro w4 hk4 ho4
 have HK4 : Kp _ := ⟨hk4⟩
 have HR4 : Kp _ := ⟨HK23.out.only ho4 (by omega)⟩
 have HB4 : Kp (Below w.heap.size w w4) := ⟨HB3.out.trans (ho4.below (by omega))⟩
 have HLt : Kp (w.heap.size < g5 ∧ g5 < w4.heap.size) := ⟨hne, hk4.lt⟩
 have HA4 : Kp (∀ W, Chg (fun j => j = w.heap.size) w4 W → Bs W W.heap.size A n c key ∧ Below w.heap.size w W) := ⟨fun W hW => by
  have h9 := HB4.out.trans (hW.below (B := w.heap.size) (fun k e => Nat.le_of_eq e.symm) HB4.out.size)
  exact ⟨(HA.out.below h9).more h9.size, h9⟩⟩
 clear hk4 ho4 HK3 HK23 HA3 HB3 hne HA
 go_wp2_with fail
 have HR4' : Kp _ := ⟨HR4.out.drew⟩
 clear HR4
 refine wp_region_held_drew (S := fun W => Chg (fun j => j = w.heap.size) w4 W) (by kernel_rfl) (Chg.drew0 _ _) (fun hHeld => ?_)
 generalize w4.drew = wS at *
 refine wpAnyH_take (i := 0) (oi := ⟨some 10, _, _, _, _, _⟩) (v := _) rfl (by kernel_rfl) (by kernel_rfl) (by kernel_rfl) (fun _ _ _ h => h) (yieldsIf_load_mid (by rfl) 76 (.tmp 5) rfl g5 0 rfl (cells8 (hideK key)) _ (fun W hW => (HK4.out.chg hW (by have := HLt.out; omega)).range (n := 16) (by rw [List.drop_zero, List.take_of_length_le (Nat.le_of_eq HLh.out)])) rwKey.ty rwKey.row (by rw [rwKey.size, HLh.out])) (by assumption) ?_
 try simp only [Act.put, sA, sB, sC]
 refine wU 1 11 ?_ rfl ?_
 try simp only [Act.put, sA, sB, sC]
 refine wU 3 13 ?_ rfl ?_
 try simp only [Act.put, sA, sB, sC]
 refine rH [2] ?_
 refine aH 12 rfl fun K hK => ?_
 go_simp
 refine (derive32M A n c key wS (HA4.out _ hHeld).1 HN.out).mono ?_
 rintro e w51 ⟨A12, c12, rfl, hX, hb'⟩
 replace HR4' : Kp _ := ⟨HR4'.out.below hb' HR4'.out.lt⟩
 have HX12 : Kp _ := ⟨hX.low hHeld.size⟩
 refine hK.out _ _ (hHeld.trans (Chg.of_below (fun _ => False) hb') (fun _ _ h => h.elim)) (fun hHeld2 => ?_)
 clear hX hb'
 clear hK K hHeld
 have hHeld := hHeld2
 clear hHeld2
 try simp only [Act.put, sA, sB, sC]
 refine rH [4] ?_
 refine aH 14 rfl fun K hK => ?_
 go_simp
 refine (derive32S A n c key w51 (HA4.out _ hHeld).1 HN.out).mono ?_
 rintro e w52 ⟨A14, c14, rfl, hX, hb'⟩
 replace HX12 : Kp _ := ⟨HX12.out.next hb'⟩
 replace HR4' : Kp _ := ⟨HR4'.out.below hb' HR4'.out.lt⟩
 have HX14 : Kp _ := ⟨hX.low hHeld.size⟩
 refine hK.out _ _ (hHeld.trans (Chg.of_below (fun _ => False) hb') (fun _ _ h => h.elim)) (fun hHeld2 => ?_)
 clear hX hb'
 clear hK K hHeld
 have hHeld := hHeld2
 clear hHeld2
 try simp only [Act.put, sA, sB, sC]
 refine rH [5] ?_
 refine AllReadyH.cons (o := ⟨none, _, _, _, _, _⟩) rfl (fun K hK => ?_) AllReadyH.nil
 refine step_store rwKey rfl (.tmp 2) (.tmp 10) rfl rfl rfl HR4'.out HLh.out (by rw [HZ.out]; decide) HO.out ?_
 intro w53 hk' ho'
 have HKf : Kp (Blk w53 w.heap.size 76 (cells8 (hideK key))) := ⟨by have h := hk'; rw [List.take_zero, List.nil_append, List.drop_of_length_le (by rw [HZ.out]; exact Nat.le_refl _), List.append_nil] at h; exact h⟩
 replace HX12 : Kp _ := ⟨HX12.out.only ho' (by have := HLt.out; omega)⟩
 replace HX14 : Kp _ := ⟨HX14.out.only ho' (by have := HLt.out; omega)⟩
 refine hK.out _ _ (hHeld.trans (Chg.of_only (S := fun j => j = w.heap.size) ho' rfl) (fun _ _ h => h)) (fun hHeld2 => ?_)
 clear hk' ho' HR4'
 clear hK K hHeld
 have hHeld := hHeld2
 clear hHeld2
 try simp only [Act.put]
 refine wU 6 3 ?_ rfl ?_
 try simp only [Act.put, sA, sB, sC]
 refine wU 7 4 ?_ rfl ?_
 try simp only [Act.put, sA, sB, sC]
 refine wpAnyH_done (by kernel_rfl) ?_ _
 have hBf := (HA4.out _ hHeld).2
 go_wp2
 refine ret_arrC rfl rwKey rfl rfl rfl HKf.out HLh.out rfl ?_
 exact ⟨_, _, _, _, rfl, HX12.out.low HB4.out.size, HX14.out.low HB4.out.size, hBf⟩
end Go.Proofs.YtcehkafddlfleaaGreatDoor

namespace Go.Proofs.YtcehkafddlfleaaGreatDoor
open Go.RowKit
structure Sto where
 b : Nat
 hk : List UInt8
 SA : Option Addr
 sc : Nat
 TA : Option Addr
 tc : Nat
def stL (s : Sto) : List Value := .pointer (some ⟨s.b, 0, none⟩) :: (cells8 s.hk ++ [.slice s.SA 32 s.sc, .slice s.TA 32 s.tc])
theorem stL_length (s : Sto) (h : s.hk.length = 16) : (stL s).length = 19 := by simp [stL, cells8_length, h]
theorem stL_key (s : Sto) (h : s.hk.length = 16) : ((stL s).drop 1).take 16 = cells8 s.hk := by
 simp only [stL, List.drop_succ_cons, List.drop_zero]
 rw [List.take_append_of_le_length (by rw [cells8_length]; omega), List.take_of_length_le (by rw [cells8_length]; omega)]
theorem stL_17 (s : Sto) (h : s.hk.length = 16) : (stL s)[17]? = some (.slice s.SA 32 s.sc) := by
 simp only [stL, List.getElem?_cons_succ]
 rw [List.getElem?_append_right (by rw [cells8_length]; omega), cells8_length, h]; rfl
theorem stL_18 (s : Sto) (h : s.hk.length = 16) : (stL s)[18]? = some (.slice s.TA 32 s.tc) := by
 simp only [stL, List.getElem?_cons_succ]
 rw [List.getElem?_append_right (by rw [cells8_length]; omega), cells8_length, h]; rfl
theorem stL_one (s : Sto) : ∀ v ∈ stL s, v.oneCell' = true := by
 intro v hv
 simp only [stL, List.mem_cons, List.mem_append, List.not_mem_nil, or_false] at hv
 rcases hv with rfl | h | rfl | rfl
 ·rfl
 ·exact cells8_one _ v h
 ·rfl
 ·rfl
section
variable {w0 w : World} {k : Nat} {t : Wd} {Om : Nat → Prop} {hs : List Held} {s : Sto}
theorem StM.box {w1 : World} {b : Nat} {e : TypeId} {cs : List Value} (h : StM w0 w k b t Om hs) (hk : Blk w1 w.heap.size e cs) (hb : Below w.heap.size w w1) : StM w0 w1 k b t (fun j => Om j ∨ j = w.heap.size) hs := h.growOwn hb ⟨Nat.le_refl _, hk.lt⟩
set_option maxHeartbeats 1000000 in
theorem sbump_any (h : StM w0 w k s.b t Om hs) (hk : k ≤ 1000000) (hB : bumpB t = true) :
  Calls Tryz.prog 81 #[.agg (stL s).toArray] w fun e w' => e = .returned .nilIface ∧ StM w0 w' (k + 1) s.b (bumpW t) Om hs ∧ Keep Om w w' := by
 have H : Kp _ := ⟨h⟩
 clear h
 go_enter Tryz.func81, Tryz.ntmps81
 go_wp2_with (with_reducible refine wpList_box (o := ⟨some 1, _, _, _, _, _⟩) (cs := stL s) rfl (.tmp 0) rfl rfl ?_)
 intro w1 hk1 hb1 hs1
 have c0 : w1.cell? ⟨w.heap.size, 0, none⟩ = some (.pointer (some ⟨s.b, 0, none⟩)) := hk1.cell? 0
 have H1 : Kp _ := ⟨H.out.grow hb1⟩
 have HK : Kp _ := ⟨H.out.keepBelow hb1⟩
 clear hk1 hb1 hs1 H
 go_wp2_with fail
 refine (sw_bump H1.out hk).mono ?_
 rintro e w2 ⟨rfl, h2, k2⟩
 rw [hB]
 have HE : Kp _ := ⟨And.intro h2 (HK.out.trans k2)⟩
 clear h2 k2
 go_wp2
 go_ret
 exact ⟨rfl, HE.out⟩
set_option maxHeartbeats 1000000 in
theorem sread_any (h : StM w0 w k s.b t Om hs) (hk : k ≤ 1000000) (x y : Int) (hx : okP (x, y)) (hl : (readW t (x, y)).lost = false) :
  Calls Tryz.prog 94 #[.agg (stL s).toArray, .int .i64 x, .int .i64 y] w fun e w' => ∃ A n c, e = .returned (.tuple #[.slice A n c, .nilIface]) ∧ StM w0 w' (k + 1) s.b (readW t (x, y)) Om ((A, n, c, readLw t (x, y)) :: hs) ∧ Keep Om w w' := by
 have H : Kp _ := ⟨h⟩
 clear h
 go_enter Tryz.func94, Tryz.ntmps94
 go_wp2_with (with_reducible refine wpList_box (o := ⟨some 3, _, _, _, _, _⟩) (cs := stL s) rfl (.tmp 0) rfl rfl ?_)
 intro w1 hk1 hb1 hs1
 have c0 : w1.cell? ⟨w.heap.size, 0, none⟩ = some (.pointer (some ⟨s.b, 0, none⟩)) := hk1.cell? 0
 have H1 : Kp _ := ⟨H.out.box hk1 hb1⟩
 have HK1 : Kp _ := ⟨hk1⟩
 have HK : Kp _ := ⟨H.out.keepBelow hb1⟩
 obtain ⟨g, hg⟩ : ∃ g, g = w.heap.size := ⟨_, rfl⟩
 rw [← hg] at HK1 H1 c0 ⊢
 clear hk1 hb1 hs1 H hg
 go_wp2_with fail
 refine (sw_read H1.out hk x y hx).mono ?_
 rintro e w2 ⟨A, n, c, rfl, h2, k2⟩
 have HB2 : Kp _ := ⟨k2.blk HK1.out (.inr rfl)⟩
 have H2 : Kp _ := ⟨h2⟩
 have HKe : Kp (Keep Om w w2) := ⟨HK.out.trans (k2.less fun _ h => .inl h)⟩
 have c02 : w2.cell? ⟨g, 0, none⟩ = some (.pointer (some ⟨s.b, 0, none⟩)) := HB2.out.cell? 0
 clear h2 k2 c0 HK1 H1 HK
 go_wp2_with fail
 refine (sw_dead H2.out).mono ?_
 rintro e w3 ⟨rfl, rfl⟩
 rw [hl]
 have HE : Kp _ := ⟨H2.out.less (Om' := Om) fun _ h => .inl h⟩
 clear c02 HB2 H2
 go_wp2
 go_ret2
 exact ⟨A, n, c, rfl, HE.out, HKe.out⟩
set_option maxRecDepth 100000 in
set_option maxHeartbeats 2000000 in
theorem swrite_any (h : StM w0 w k s.b t Om hs) (hk : k ≤ 1000000) (hK : s.hk.length = 16) (x y : Int) (hx : okP (x, y)) (e q : Nat) (he : e < 18446744073709551616) (hq : q < 4294967296) (A : Option Addr) (n c : Nat) (l : List UInt8) (ha : Bs w w.heap.size A n c l) (hn : n ≤ 256) (hw : writeB t (x, y) = true) :
  Calls Tryz.prog 84 #[.agg (stL s).toArray, .int .i64 x, .int .i64 y, .int .u64 e, .int .i64 q, .slice A n c] w fun r w' => ∃ B d, r = .returned (.tuple #[.slice B 272 d, .nilIface]) ∧ StM w0 w' (k + 1) s.b (writeW t (x, y) (hideL s.hk e q l)) Om ((B, 272, d, hideL s.hk e q l) :: hs) ∧ Keep Om w w' := by
 have H : Kp _ := ⟨h⟩
 have HA : Kp _ := ⟨ha⟩
 have HKl : Kp ((cells8 s.hk).length = 16 ∧ s.hk.length = 16) := ⟨by rw [cells8_length]; exact hK, hK⟩
 have hqI : (q : Int) < 4294967296 := by omega
 have heI : (e : Int) < 18446744073709551616 := by omega
 clear h ha
 go_enter Tryz.func84, Tryz.ntmps84
 go_wp2_with (with_reducible refine wpList_box (o := ⟨some 6, _, _, _, _, _⟩) (cs := stL s) rfl (.tmp 0) rfl rfl ?_)
 intro w1 hk1 hb1 hs1
 have H1 : Kp _ := ⟨H.out.box hk1 hb1⟩
 have HK1 : Kp _ := ⟨hk1⟩
 have HA1 : Kp _ := ⟨HA.out.next hb1 (Nat.le_refl _)⟩
 have HK : Kp _ := ⟨H.out.keepBelow hb1⟩
 have HFt : Kp (1 + 16 ≤ (stL s).length) := ⟨by rw [stL_length s HKl.out.2]; decide⟩
 obtain ⟨g, hg⟩ : ∃ g, g = w.heap.size := ⟨_, rfl⟩
 rw [← hg] at HK1 H1 ⊢
 clear hk1 hb1 hs1 H hg HA
 go_wp2_with (with_reducible refine wpList_loadv (o := ⟨some 18, _, _, _, _, _⟩) (vs := cells8 s.hk) rwKey rfl (.tmp 17) rfl rfl HK1.out HFt.out (stL_key s HKl.out.2) ?_)
 refine (hide_any s.hk e q A n c l w1 HKl.out.2 he hq hn HA1.out).mono ?_
 rintro r w2 ⟨B, d, rfl, hB2, hb2⟩
 have H2 : Kp _ := ⟨H1.out.growHold hb2 hB2 (by omega)⟩
 have HK2 : Kp _ := ⟨HK1.out.below hb2 HK1.out.lt⟩
 have HKe2 : Kp (Keep Om w w2) := ⟨HK.out.trans ((H1.out.keepBelow hb2).less fun _ h => .inl h)⟩
 have c0 : w2.cell? ⟨g, 0, none⟩ = some (.pointer (some ⟨s.b, 0, none⟩)) := HK2.out.cell? 0
 clear hB2 hb2 HA1 HK1 H1 HK
 go_wp2_with fail
 refine (sw_write H2.out hk x y hx (A := B) (n := 272) (c := d) (l := hideL s.hk e q l) (by simp)).mono ?_
 rintro r w3 ⟨rfl, h3, k3⟩
 rw [hw]
 have HE : Kp _ := ⟨And.intro (h3.less (Om' := Om) fun _ h => .inl h) (HKe2.out.trans (k3.less fun _ h => .inl h))⟩
 clear h3 k3 c0 HK2 H2 HKe2
 go_wp2
 go_ret2
 exact ⟨B, d, rfl, HE.out⟩
end
end Go.Proofs.YtcehkafddlfleaaGreatDoor

namespace Go.Proofs.YtcehkafddlfleaaGreatDoor
open Go.RowKit
section
variable {P : Program} {ops : Array Oper} {rest : List Oper} {o : Oper} {a : Act} {Q : Exit → Act → World → Prop} {w : World} {t : TypeId}
theorem wpList_build4 (hg : o.guard = none) (i j k l : Nat) (x y z q : Operand) (ho : o.op = .build t #[(i, x), (j, y), (k, z), (l, q)]) {v u s r : Value} (hx : a.eval x = v) (hy : a.eval y = u) (hz : a.eval z = s) (hq : a.eval q = r) {cs : List Value} (hb : P.built t [(i, v), (j, u), (k, s), (l, r)] = some cs.toArray)
  (h : wpList P ops Q rest (a.put o.dst (.agg cs.toArray)) w) : wpList P ops Q (o :: rest) a w := by
 refine wpList_plain hg fun K hK => ?_
 have hr := run_build (P := P) w t #[(i, v), (j, u), (k, s), (l, r)] cs.toArray (by simpa using hb)
 unfold Oper.wp
 simp only [execOp, ho, Sem.run_bind, List.map_toArray, List.map_cons, List.map_nil, hx, hy, hz, hq, hr, Result.andThen_ok, Sem.run_pure]
 exact hK _ _ h
end
def stZ : List Value := .pointer none :: (cells8 z16 ++ [.slice none 0 0, .slice none 0 0])
theorem tySto : Ty Tryz.prog 119 stZ := ⟨by kernel_rfl⟩
theorem rwSto : Rw Tryz.prog 119 (match (Tryz.prog).underlying 119 with | some d => d | none => .bool) 19 := ⟨by kernel_rfl, by kernel_rfl, by kernel_rfl⟩
theorem sto_built (b : Nat) (g : Nat → UInt8) (SA : Option Addr) (sc : Nat) (TA : Option Addr) (tc : Nat) : (Tryz.prog).built 119 [(0, .pointer (some ⟨b, 0, none⟩)), (1, .agg (cells8 ((List.range 16).map g)).toArray), (2, .slice SA 32 sc), (3, .slice TA 32 tc)] = some (stL ⟨b, (List.range 16).map g, SA, sc, TA, tc⟩).toArray := by kernel_rfl
theorem sto_built' (s : Sto) (h : s.hk.length = 16) : (Tryz.prog).built 119 [(0, .pointer (some ⟨s.b, 0, none⟩)), (1, .agg (cells8 s.hk).toArray), (2, .slice s.SA 32 s.sc), (3, .slice s.TA 32 s.tc)] = some (stL s).toArray := by
 have h1 := sto_built s.b (fun i => s.hk.getD i 0) s.SA s.sc s.TA s.tc
 rw [as_range s.hk 16 h] at h1
 exact h1
set_option maxRecDepth 100000 in
set_option maxHeartbeats 2000000 in
theorem storeOf_any (b : Nat) (A : Option Addr) (n c : Nat) (key : List UInt8) (w : World) (ha : Bs w w.heap.size A n c key) (hn : n ≤ 524288) :
  Calls Tryz.prog 49 #[.pointer (some ⟨b, 0, none⟩), .slice A n c] w fun e w' => ∃ s : Sto, s.b = b ∧ s.hk = hideK key ∧ e = .returned (.agg (stL s).toArray) ∧ BsN w.heap.size w' s.SA 32 s.sc (sumK key) ∧ BsN w.heap.size w' s.TA 32 s.tc (sealK key) ∧ Below w.heap.size w w' := by
 have HA : Kp _ := ⟨ha⟩
 have HN : Kp _ := ⟨hn⟩
 have HLk : Kp ((hideK key).length = 16) := ⟨by unfold hideK; rw [deriveL_length _ _ _ 1 (by decide)]; decide⟩
 have HLh : Kp ((cells8 (hideK key)).length = 16) := ⟨by rw [cells8_length]; exact HLk.out⟩
 have HZ : Kp ((cells8 z16).length = 16) := ⟨by rw [cells8_length]; rfl⟩
 have HO : Kp _ := ⟨cells8_one (hideK key)⟩
 clear ha hn
 go_enter Tryz.func49, Tryz.ntmps49
 go_wp2_with (with_reducible refine wpList_alloc (o := ⟨some 4, _, _, _, _, _⟩) tySto rfl rfl ?_)
 intro w1 hk1 hb1 hs1
 have HK1 : Kp _ := ⟨hk1⟩
 have HA1 : Kp _ := ⟨HA.out.next hb1 (Nat.le_refl _)⟩
 have HB1 : Kp _ := ⟨hb1⟩
 clear hk1 hb1 hs1 HA
 go_wp2_with fail
 refine (mkeys_any A n c key w1 HA1.out HN.out).mono ?_
 rintro e w2 ⟨SA, sc, TA, tc, rfl, hS, hT, hb2⟩
 have HX : Kp _ := ⟨And.intro hS hT⟩
 have HK2 : Kp _ := ⟨HK1.out.below hb2 HK1.out.lt⟩
 have HB2 : Kp _ := ⟨HB1.out.trans (hb2.mono HB1.out.size)⟩
 have HLt : Kp (w.heap.size < w1.heap.size) := ⟨HK1.out.lt⟩
 clear hS hT hb2 HK1 HA1
 obtain ⟨s, hs⟩ : ∃ s : Sto, s = ⟨b, hideK key, SA, sc, TA, tc⟩ := ⟨_, rfl⟩
 obtain rfl : SA = s.SA := by rw [hs]
 obtain rfl : TA = s.TA := by rw [hs]
 obtain rfl : sc = s.sc := by rw [hs]
 obtain rfl : tc = s.tc := by rw [hs]
 have HSk : Kp (s.hk = hideK key ∧ s.b = b) := ⟨by rw [hs]; exact ⟨rfl, rfl⟩⟩
 clear hs
 rw [← HSk.out.1] at HLk HLh HO ⊢
 rw [← HSk.out.2]
 go_wp2_with (with_reducible refine wpList_alloc (o := ⟨some 5, _, _, _, _, _⟩) tyKey rfl rfl ?_)
 intro w3 hk3 hb3 hs3
 have HK3 : Kp _ := ⟨hk3⟩
 have HK23 : Kp _ := ⟨HK2.out.below hb3 HK2.out.lt⟩
 have HX3 : Kp _ := ⟨And.intro (HX.out.1.next hb3) (HX.out.2.next hb3)⟩
 have HB3 : Kp _ := ⟨HB2.out.trans (hb3.mono HB2.out.size)⟩
 have HNe : Kp (w.heap.size < w2.heap.size) := ⟨HK2.out.lt⟩
 have HF : Kp (Fr w2.heap.size none) := ⟨Fr.nil _⟩
 have HXb : Kp (∀ j (hA : s.SA = some j), j.block < w2.heap.size) := ⟨fun j hA => by
  obtain ⟨b', o', hA', hb', _⟩ := HX.out.1.bs.cells (by omega)
  rw [hA] at hA'; obtain rfl := Option.some.inj hA'; exact hb'⟩
 have HXc : Kp (∀ j (hA : s.TA = some j), j.block < w2.heap.size) := ⟨fun j hA => by
  obtain ⟨b', o', hA', hb', _⟩ := HX.out.2.bs.cells (by omega)
  rw [hA] at hA'; obtain rfl := Option.some.inj hA'; exact hb'⟩
 obtain ⟨g5, hg5⟩ : ∃ g, g = w2.heap.size := ⟨_, rfl⟩
 rw [← hg5] at HK3 HNe HXb HXc ⊢
 clear hk3 hb3 hs3 HK2 HB2 hg5 HX
 go_wp2_with (with_reducible refine wpList_storeAll (o := ⟨none, _, _, _, _, _⟩) (vs := cells8 s.hk) rwKey rfl (.tmp 5) (.tmp 11) rfl rfl HK3.out HZ.out HLh.out HO.out rfl ?_)
 intro w4 hk4 ho4
 have HK4 : Kp _ := ⟨hk4⟩
 have HR4 : Kp _ := ⟨HK23.out.only ho4 (by have := HNe.out; omega)⟩
 have HB4 : Kp (Below w.heap.size w w4) := ⟨HB3.out.trans (ho4.below (by have := HNe.out; omega))⟩
 have HX4 : Kp (BsN w1.heap.size w4 s.SA 32 s.sc (sumK key) ∧ BsN w1.heap.size w4 s.TA 32 s.tc (sealK key)) := ⟨HX3.out.1.other ho4 (fun ad hA e => by have := HXb.out ad hA; omega), HX3.out.2.other ho4 (fun ad hA e => by have := HXc.out ad hA; omega)⟩
 have HSz : Kp (stZ.length = 19 ∧ (stL s).length = 19) := ⟨rfl, stL_length s HLk.out⟩
 have HSo : Kp _ := ⟨stL_one s⟩
 clear hk4 ho4 HK3 HK23 HB3 HX3
 go_wp2_with (first
  | (with_reducible refine wpList_loadAll (o := ⟨some 15, _, _, _, _, _⟩) rwKey rfl (.tmp 5) rfl rfl HK4.out HLh.out ?_)
  | (with_reducible refine wpList_build4 (o := ⟨some 18, _, _, _, _, _⟩) (v := .pointer (some ⟨s.b, 0, none⟩)) (u := .agg (cells8 s.hk).toArray) (s := .slice s.SA 32 s.sc) (r := .slice s.TA 32 s.tc) rfl 0 1 2 3 (.tmp 14) (.tmp 15) (.tmp 16) (.tmp 17) rfl rfl rfl rfl rfl (sto_built' s HLk.out) ?_)
  | (with_reducible refine wpList_storeAll (o := ⟨none, _, _, _, _, _⟩) (vs := stL s) rwSto rfl (.tmp 4) (.tmp 18) rfl rfl HR4.out HSz.out.1 HSz.out.2 HSo.out rfl ?_))
 intro w5 hk5 ho5
 have HK5 : Kp _ := ⟨hk5⟩
 have HB5 : Kp (Below w.heap.size w w5) := ⟨HB4.out.trans (ho5.below (Nat.le_refl _))⟩
 have HX5 : Kp _ := ⟨And.intro ((HX4.out.1.only ho5 HLt.out).low HB1.out.size) ((HX4.out.2.only ho5 HLt.out).low HB1.out.size)⟩
 clear hk5 ho5 HR4 HX4 HB4
 go_wp2
 refine ret_arr rfl rwSto rfl HK5.out HSz.out.2 rfl ?_
 exact ⟨s, HSk.out.2, HSk.out.1, rfl, HX5.out.1, HX5.out.2, HB5.out⟩
end Go.Proofs.YtcehkafddlfleaaGreatDoor
