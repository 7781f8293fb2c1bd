/-  -/
import Derived.Test.YtcehkafddlfleaaGreatDoorG48
namespace Go.Proofs.YtcehkafddlfleaaGreatDoor
open Go.RowKit
abbrev Gs := List (Nat × TypeId × List Value)
def Og (Ox : Nat → Prop) (L : Gs) : Nat → Prop := fun j => Ox j ∨ ∃ x ∈ L, x.1 = j
section
variable {w0 w w' : World} {k : Nat} {t : Wd} {Om Ox Om' : Nat → Prop} {hs : List Held} {g gm nm : Nat} {s : Sto} {ks : List UInt8} {rc rn : Rc} {q lim : Int} {po : Bool} {F : Nat → Option Pt}
theorem MemW.fold2 (h : MemW w0 w k t Om Ox hs g gm nm s ks rc rn q lim po F) {i p9 : Nat} {x : Pt} (hF : F i = some x) (hp9 : Ox p9) (h2 : StM w0 w' k s.b t Om hs) (hk : Keep (fun j => Om j ∧ j ≠ x.p ∧ j ≠ p9) w w') {rd wr : List UInt8} (hb : Blk w' x.p 184 (cells8 rd ++ cells8 wr)) (hr : rd.length = 32) (hw : wr.length = 32) :
  MemW w0 w' k t Om Ox hs g gm nm s ks rc rn q lim po (fun j => if j = i then some ⟨x.p, rd, wr⟩ else F j) ∧ Keep (fun j => Ox j ∧ j ≠ p9) w w' := by
 obtain ⟨a1, a2, a3, a4, a5⟩ := h.pts i x hF
 obtain ⟨n1, n2, n3, n4⟩ := h.oth p9 hp9
 obtain ⟨A, n, c, D, m, e, A2, n2', c2, D2, m2, e2, hb0, h3, h4⟩ := h.mem
 have hp : ∀ j y, (if j = i then some (⟨x.p, rd, wr⟩ : Pt) else F j) = some y → ∃ z, F j = some z ∧ z.p = y.p := fun j y hy => by
  split at hy
  ·next e => cases hy; exact ⟨x, by rw [e]; exact hF, rfl⟩
  ·exact ⟨y, hy, rfl⟩
 have hm : mpF (fun j => if j = i then some ⟨x.p, rd, wr⟩ else F j) = mpF F := by
  funext y
  unfold mpF
  by_cases h0 : 0 ≤ y
  ·rw [if_pos h0, if_pos h0]
   by_cases e : y.toNat = i
   ·simp only [e, if_true, hF]; rfl
   ·simp only [e, if_false]
  ·rw [if_neg h0, if_neg h0]
 refine ⟨⟨h2, h.mine, fun j hj => ?_, h.key, h.sum, ⟨A, n, c, D, m, e, A2, n2', c2, D2, m2, e2, hk.blk hb0 ⟨h.mine.1, fun e => a2 e.symm, fun e => n2 e.symm⟩, h3, h4⟩, ?_, fun j y hy => ?_, fun j l y z hy hz e => ?_, h.small⟩, hk.less fun j hj => ⟨(h.oth j hj.1).1, fun e => (h.oth j hj.1).2.2.2 i x hF e.symm, hj.2⟩⟩
 ·obtain ⟨b1, b2, b3, b4⟩ := h.oth j hj
  refine ⟨b1, b2, b3, fun l y hy => ?_⟩
  obtain ⟨z, hz, ez⟩ := hp l y hy
  rw [← ez]; exact b4 l z hz
 ·rw [hm]; exact h.map.stay (hk.block _ ⟨h.mine.2.1, fun e => a3 e.symm, fun e => n3 e.symm⟩)
 ·split at hy
  ·cases hy; exact ⟨a1, a2, a3, hb, hr, hw⟩
  ·next hne =>
   obtain ⟨c1, c2, c3, c4, c5⟩ := h.pts j y hy
   exact ⟨c1, c2, c3, hk.blk c4 ⟨c1, fun e => hne (h.inj j i y x hy hF e), fun e => n4 j y hy e⟩, c5⟩
 ·obtain ⟨y1, hy1, ey⟩ := hp j y hy
  obtain ⟨z1, hz1, ez⟩ := hp l z hz
  exact h.inj j l y1 z1 hy1 hz1 (by rw [ey, ez, e])
theorem MemW.disown {gD o n c : Nat} {l : List UInt8} (h : MemW w0 w k t Om Ox hs g gm nm s ks rc rn q lim po F) {Ox' : Nat → Prop} (hg : Ox gD) (hO : ∀ j, Ox' j → Ox j ∧ j ≠ gD) (ha : Bs w w.heap.size (some ⟨gD, o, none⟩) n c l) (hn : n ≤ 4294967296) :
  MemW w0 w k t (fun j => Om j ∧ j ≠ gD) Ox' ((some ⟨gD, o, none⟩, n, c, l) :: hs) g gm nm s ks rc rn q lim po F := by
 obtain ⟨n1, n2, n3, n4⟩ := h.oth gD hg
 obtain ⟨A, n9, c9, D, m, e, A2, n2', c2, D2, m2, e2, hb0, h3, h4⟩ := h.mem
 refine ⟨h.st.disown n1 (fun j hj => hj) ha hn, ⟨⟨h.mine.1, fun e => n2 e.symm⟩, ⟨h.mine.2.1, fun e => n3 e.symm⟩, h.mine.2.2⟩, fun j hj => ?_, h.key, List.mem_cons_of_mem _ h.sum, ⟨A, n9, c9, D, m, e, A2, n2', c2, D2, m2, e2, hb0, h3.mono (fun x hx => List.mem_cons_of_mem _ hx), h4.mono (fun x hx => List.mem_cons_of_mem _ hx)⟩, h.map, fun i x hx => ?_, h.inj, h.small⟩
 ·obtain ⟨b1, b2, b3, b4⟩ := h.oth j (hO j hj).1
  exact ⟨⟨b1, (hO j hj).2⟩, b2, b3, b4⟩
 ·obtain ⟨b1, b2, b3, b4⟩ := h.pts i x hx
  exact ⟨⟨b1, n4 i x hx⟩, b2, b3, b4⟩
theorem MemW.more {k' : Nat} (h : MemW w0 w k t Om Ox hs g gm nm s ks rc rn q lim po F) (hk : k ≤ k') : MemW w0 w k' t Om Ox hs g gm nm s ks rc rn q lim po F :=
 ⟨h.st.more hk, h.mine, h.oth, h.key, h.sum, h.mem, h.map, h.pts, h.inj, h.small⟩
end
structure GuW (w0 w W : World) (k : Nat) (t : Wd) (Ox : Nat → Prop) (hs : List Held) (g gm nm : Nat) (s : Sto) (ks : List UInt8) (rc rn : Rc) (q lim : Int) (po : Bool) (F : Nat → Option Pt) (L : Gs) : Prop where
 st : ∃ Om, MemW w0 W k t Om (Og Ox L) hs g gm nm s ks rc rn q lim po F
 blk : ∀ x ∈ L, Blk W x.1 x.2.1 x.2.2
 nd : (L.map (·.1)).Nodup
 old : ∀ j, Ox j → ∀ x ∈ L, x.1 ≠ j
 keep : Keep Ox w W
section
variable {w0 w W W' : World} {k k' p : Nat} {t t' : Wd} {Om Om' Ox : Nat → Prop} {hs hs' : List Held} {g gm gm' nm nm' : Nat} {s : Sto} {ks : List UInt8} {rc rn rc' rn' : Rc} {q lim q' lim' : Int} {po po' : Bool} {F F' : Nat → Option Pt} {L L1 L2 : Gs} {e e' : TypeId} {cs cs' : List Value}
theorem GuW.start (h : MemW w0 w k t Om Ox hs g gm nm s ks rc rn q lim po F) : GuW w0 w w k t Ox hs g gm nm s ks rc rn q lim po F [] :=
 ⟨⟨Om, h.lessO (fun j hj => hj.elim id (fun ⟨x, hx, _⟩ => by cases hx))⟩, fun x hx => (by cases hx), List.nodup_nil, fun _ _ _ hx => (by cases hx), Keep.refl _ _⟩
theorem GuW.grow (h : GuW w0 w W k t Ox hs g gm nm s ks rc rn q lim po F L) (hb : Below W.heap.size W W') : GuW w0 w W' k t Ox hs g gm nm s ks rc rn q lim po F L := by
 obtain ⟨Om, hm⟩ := h.st
 exact ⟨⟨Om, hm.grow hb⟩, fun x hx => (h.blk x hx).below hb (h.blk x hx).lt, h.nd, h.old, h.keep.trans ((hm.st.keepBelow hb).less fun j hj => (hm.oth j (.inl hj)).1)⟩
theorem GuW.drew (h : GuW w0 w W k t Ox hs g gm nm s ks rc rn q lim po F L) : GuW w0 w W.drew k t Ox hs g gm nm s ks rc rn q lim po F L := h.grow (Below.refl _ _).drew
theorem GuW.new (h : GuW w0 w W k t Ox hs g gm nm s ks rc rn q lim po F L) (hb : Below W.heap.size W W') (hk : Blk W' p e cs) (hp : W.heap.size ≤ p) : GuW w0 w W' k t Ox hs g gm nm s ks rc rn q lim po F ((p, e, cs) :: L) := by
 obtain ⟨Om, hm⟩ := h.st
 refine ⟨⟨_, (hm.guest hb ⟨hp, hk.lt⟩).lessO (fun j hj => ?_)⟩, fun x hx => ?_, ?_, fun j hj x hx => ?_, h.keep.trans ((hm.st.keepBelow hb).less fun j hj => (hm.oth j (.inl hj)).1)⟩
 ·rcases hj with h9 | ⟨x, hx, e⟩
  ·exact .inl (.inl h9)
  ·rcases List.mem_cons.1 hx with rfl | hx
   ·exact .inr e.symm
   ·exact .inl (.inr ⟨x, hx, e⟩)
 ·rcases List.mem_cons.1 hx with rfl | hx
  ·exact hk
  ·exact (h.blk x hx).below hb (h.blk x hx).lt
 ·rw [List.map_cons]
  refine List.nodup_cons.2 ⟨fun h9 => ?_, h.nd⟩
  obtain ⟨x, hx, e⟩ := List.mem_map.1 h9
  have := (h.blk x hx).lt
  have e2 : x.1 = p := e
  omega
 ·rcases List.mem_cons.1 hx with rfl | hx
  ·intro e
   have := (hm.st.lt (hm.oth j (.inl hj)).1).2
   have e2 : p = j := e
   omega
  ·exact h.old j hj x hx
theorem GuW.step (h : GuW w0 w W k t Ox hs g gm nm s ks rc rn q lim po F L) (h2 : MemW w0 W' k' t' Om' (Og Ox L) hs' g gm' nm' s ks rc' rn' q' lim' po' F') (hk : Keep (Og Ox L) W W') : GuW w0 w W' k' t' Ox hs' g gm' nm' s ks rc' rn' q' lim' po' F' L :=
 ⟨⟨_, h2⟩, fun x hx => hk.blk (h.blk x hx) (.inr ⟨x, hx, rfl⟩), h.nd, h.old, h.keep.trans (hk.less fun _ hj => .inl hj)⟩
theorem GuW.step1 (h : GuW w0 w W k t Ox hs g gm nm s ks rc rn q lim po F (L1 ++ (p, e, cs) :: L2)) (h2 : MemW w0 W' k' t' Om' (Og Ox (L1 ++ (p, e, cs) :: L2)) hs' g gm' nm' s ks rc' rn' q' lim' po' F') (hk : Keep (fun j => Og Ox (L1 ++ (p, e, cs) :: L2) j ∧ j ≠ p) W W') (hb : Blk W' p e' cs') : GuW w0 w W' k' t' Ox hs' g gm' nm' s ks rc' rn' q' lim' po' F' (L1 ++ (p, e', cs') :: L2) := by
 have hnd := h.nd
 rw [List.map_append, List.map_cons] at hnd
 have hne : ∀ x, x ∈ L1 ∨ x ∈ L2 → x.1 ≠ p := fun x hx e9 => by
  rw [List.nodup_append] at hnd
  rcases hx with hx | hx
  ·exact hnd.2.2 x.1 (List.mem_map.2 ⟨x, hx, rfl⟩) p (by simp) e9
  ·exact (List.nodup_cons.1 hnd.2.1).1 (List.mem_map.2 ⟨x, hx, e9⟩)
 have hmem : ∀ x, x ∈ L1 ++ (p, e', cs') :: L2 → (x ∈ L1 ∨ x ∈ L2) ∨ x = (p, e', cs') := fun x hx => by
  rcases List.mem_append.1 hx with h1 | h1
  ·exact .inl (.inl h1)
  ·rcases List.mem_cons.1 h1 with h2 | h2
   ·exact .inr h2
   ·exact .inl (.inr h2)
 have hin : ∀ x, x ∈ L1 ∨ x ∈ L2 → x ∈ L1 ++ (p, e, cs) :: L2 := fun x hx => by
  rcases hx with h1 | h1
  ·exact List.mem_append.2 (.inl h1)
  ·exact List.mem_append.2 (.inr (List.mem_cons_of_mem _ h1))
 refine ⟨⟨_, h2.lessO (fun j hj => ?_)⟩, fun x hx => ?_, by rw [List.map_append, List.map_cons]; exact hnd, fun j hj x hx => ?_, h.keep.trans (hk.less fun j hj => ⟨.inl hj, fun e9 => h.old j hj (p, e, cs) (by simp) e9.symm⟩)⟩
 ·rcases hj with h9 | ⟨x, hx, e9⟩
  ·exact .inl h9
  ·rcases hmem x hx with h1 | rfl
   ·exact .inr ⟨x, hin x h1, e9⟩
   ·exact .inr ⟨(p, e, cs), by simp, e9⟩
 ·rcases hmem x hx with h1 | rfl
  ·exact hk.blk (h.blk x (hin x h1)) ⟨.inr ⟨x, hin x h1, rfl⟩, hne x h1⟩
  ·exact hb
 ·rcases hmem x hx with h1 | rfl
  ·exact h.old j hj x (hin x h1)
  ·exact h.old j hj (p, e, cs) (by simp)
theorem GuW.set (h : GuW w0 w W k t Ox hs g gm nm s ks rc rn q lim po F (L1 ++ (p, e, cs) :: L2)) (ho : Only p W W') (hb : Blk W' p e' cs') : GuW w0 w W' k t Ox hs g gm nm s ks rc rn q lim po F (L1 ++ (p, e', cs') :: L2) := by
 obtain ⟨Om, hm⟩ := h.st
 exact h.step1 (hm.other ho (.inr ⟨(p, e, cs), by simp, rfl⟩)) (Keep.only ho fun h9 => h9.2 rfl) hb
theorem GuW.pop {x : Nat × TypeId × List Value} (h : GuW w0 w W k t Ox hs g gm nm s ks rc rn q lim po F (x :: L)) : GuW w0 w W k t Ox hs g gm nm s ks rc rn q lim po F L := by
 obtain ⟨Om, hm⟩ := h.st
 have hnd := h.nd
 rw [List.map_cons] at hnd
 exact ⟨⟨Om, hm.lessO (fun j hj => hj.imp id (fun ⟨y, hy, e⟩ => ⟨y, List.mem_cons_of_mem _ hy, e⟩))⟩, fun y hy => h.blk y (List.mem_cons_of_mem _ hy), (List.nodup_cons.1 hnd).2, fun j hj y hy => h.old j hj y (List.mem_cons_of_mem _ hy), h.keep⟩
theorem GuW.done (h : GuW w0 w W k t Ox hs g gm nm s ks rc rn q lim po F L) : ∃ Om, MemW w0 W k t Om Ox hs g gm nm s ks rc rn q lim po F := by
 obtain ⟨Om, hm⟩ := h.st
 exact ⟨Om, hm.lessO (fun j hj => .inl hj)⟩
theorem GuW.ne (h : GuW w0 w W k t Ox hs g gm nm s ks rc rn q lim po F (L1 ++ (p, e, cs) :: L2)) {x : Nat × TypeId × List Value} (hx : x ∈ L1 ∨ x ∈ L2) : x.1 ≠ p := fun e9 => by
 have hnd := h.nd
 rw [List.map_append, List.map_cons, List.nodup_append] at hnd
 rcases hx with hx | hx
 ·exact hnd.2.2 x.1 (List.mem_map.2 ⟨x, hx, rfl⟩) p (by simp) e9
 ·exact (List.nodup_cons.1 hnd.2.1).1 (List.mem_map.2 ⟨x, hx, e9⟩)
theorem GuW.more (h : GuW w0 w W k t Ox hs g gm nm s ks rc rn q lim po F L) (hk : k ≤ k') : GuW w0 w W k' t Ox hs g gm nm s ks rc rn q lim po F L := by
 obtain ⟨Om, hm⟩ := h.st
 exact ⟨⟨Om, hm.more hk⟩, h.blk, h.nd, h.old, h.keep⟩
theorem GuW.congrF (h : GuW w0 w W k t Ox hs g gm nm s ks rc rn q lim po F L) (e : F' = F) : GuW w0 w W k t Ox hs g gm nm s ks rc rn q lim po F' L := by rw [e]; exact h
end
theorem yields_neq {P : Program} {ops : Array Oper} {op : Oper} {a : Act} {t e t' : TypeId} {n : Nat} (hw : Region.wanted op (yielded ops a.tmps) = true) (E : EqB P t e n) (hG : P.eqGuardType P.depth t = false) (x y : Operand) (ho : op.op = .binOp .neq t x y t') (l m : List UInt8)
  (hx : a.eval x = .agg (cells8 l).toArray) (hy : a.eval y = .agg (cells8 m).toArray) (hl : l.length = n) (hm : m.length = n) {b : Bool} (hb : (!(l == m)) = b) : Yields P ops op (.bool b) a :=
 .inl ⟨hw, fun w => by
  unfold execOp
  simp only [ho, hx, hy, Sem.run_bind, run_eqGuard_agg (w := w) _ _ _ _ _ _ hG, Result.andThen_ok, run_neq_bytes E w l m hl hm, hb, Sem.run_pure]⟩
theorem tg_dig (p : Nat) (t : TypeId) (d v : List UInt8) (hd : d.length = 32) : (⟨p, 0, t, cells8 d, d⟩ : Tg).add v (decide (1 < 2)) = cells8 (addL d v) := by
 unfold Tg.add Tg.put
 rw [if_pos (show decide (1 < 2) = true from rfl)]
 show (cells8 d).take 0 ++ cells8 (addL d v) ++ (cells8 d).drop (0 + 32) = _
 rw [List.take_zero, List.nil_append, Nat.zero_add, List.drop_of_length_le (by rw [cells8_length]; omega), List.append_nil]
theorem tg_dig_ok (p : Nat) (t : TypeId) (d : List UInt8) (hd : d.length = 32) : (⟨p, 0, t, cells8 d, d⟩ : Tg).ok := by
 refine ⟨?_, ?_, hd⟩
 ·show 0 + 32 ≤ (cells8 d).length
  rw [cells8_length]; omega
 ·show ((cells8 d).drop 0).take 32 = _
  rw [List.drop_zero, List.take_of_length_le (by rw [cells8_length]; omega)]
section
variable {w0 w W : World} {k : Nat} {t : Wd} {Ox : Nat → Prop} {hs : List Held} {g gm nm : Nat} {s : Sto} {ks : List UInt8} {rc rn : Rc} {q lim : Int} {po : Bool} {F : Nat → Option Pt} {L : Gs}
theorem gu_fold2 {g1 gf gp g9 i : Nat} {x : Pt} {d : List UInt8} (H : GuW w0 w W k t Ox hs g gm nm s ks rc rn q lim po F ((g1, 119, stL s) :: (gf, 231, [.slice (some ⟨gp, 0, none⟩) 2 2]) :: (gp, 171, [.pointer (some ⟨x.p, 0, none⟩), .pointer (some ⟨g9, 0, none⟩)]) :: (g9, 173, cells8 d) :: L))
  (hF : F i = some x) (hd : d.length = 32) (A : Option Addr) (n c : Nat) (b : List UInt8) (hb : (A, n, c, b) ∈ hs) (hn : n ≤ 523000) (z : Int) :
  Calls Tryz.prog 142 #[.int .i64 z, .slice A n c, .pointer (some ⟨g1, 0, none⟩), .pointer (some ⟨gf, 0, none⟩)] W fun r W' => r = .returned (.tuple #[]) ∧
   GuW w0 w W' k t Ox hs g gm nm s ks rc rn q lim po (fun j => if j = i then some ⟨x.p, addL x.rd (ofL ks z b), x.wr⟩ else F j) ((g1, 119, stL s) :: (gf, 231, [.slice (some ⟨gp, 0, none⟩) 2 2]) :: (gp, 171, [.pointer (some ⟨x.p, 0, none⟩), .pointer (some ⟨g9, 0, none⟩)]) :: (g9, 173, cells8 (addL d (ofL ks z b))) :: L) := by
 obtain ⟨Om, hm⟩ := H.st
 have b1 := H.blk (g1, 119, stL s) (by simp)
 have b2 := H.blk (gf, 231, [.slice (some ⟨gp, 0, none⟩) 2 2]) (by simp)
 have b3 := H.blk (gp, 171, [.pointer (some ⟨x.p, 0, none⟩), .pointer (some ⟨g9, 0, none⟩)]) (by simp)
 have b4 := H.blk (g9, 173, cells8 d) (by simp)
 have n9 := H.ne (L1 := [_, _]) (L2 := (g9, 173, cells8 d) :: L) (x := (g9, 173, cells8 d)) (.inr (by simp))
 have o9 := hm.oth g9 (.inr ⟨(g9, 173, cells8 d), by simp, rfl⟩)
 have op := hm.oth gp (.inr ⟨(gp, 171, [.pointer (some ⟨x.p, 0, none⟩), .pointer (some ⟨g9, 0, none⟩)]), by simp, rfl⟩)
 have hpt := hm.pts i x hF
 have hkp : ∀ j (hj : j < [(⟨x.p, 0, 184, cells8 x.rd ++ cells8 x.wr, x.rd⟩ : Tg), ⟨g9, 0, 173, cells8 d, d⟩].length), W.cell? ⟨gp, j, none⟩ = some (.pointer (some ⟨[(⟨x.p, 0, 184, cells8 x.rd ++ cells8 x.wr, x.rd⟩ : Tg), ⟨g9, 0, 173, cells8 d, d⟩][j].g, [(⟨x.p, 0, 184, cells8 x.rd ++ cells8 x.wr, x.rd⟩ : Tg), ⟨g9, 0, 173, cells8 d, d⟩][j].o, none⟩)) := fun j hj => by
  match j, hj with
  | 0, _ => exact b3.cell? 0
  | 1, _ => exact b3.cell? 1
 have ht9 : Tgs W [(⟨x.p, 0, 184, cells8 x.rd ++ cells8 x.wr, x.rd⟩ : Tg), ⟨g9, 0, 173, cells8 d, d⟩] (ofL ks z b) 0 := ⟨fun j hj => by
  match j, hj with
  | 0, _ => exact hpt.2.2.2.1
  | 1, _ => exact b4⟩
 have hne : x.p ≠ g9 := o9.2.2.2 i x hF
 refine (fold_any hm.st hm.key ks hm.sum A n c b hb hn z g1 gf gp 2 2 [⟨x.p, 0, 184, cells8 x.rd ++ cells8 x.wr, x.rd⟩, ⟨g9, 0, 173, cells8 d, d⟩] rfl b1 b2 hkp b3.lt ht9 (fun y hy => by
  rcases List.mem_cons.1 hy with rfl | hy
  ·exact ⟨tg_rd_ok _ _ _ _ hpt.2.2.2.2.1 hpt.2.2.2.2.2, hpt.1, op.2.2.2 i x hF⟩
  ·obtain rfl := List.mem_singleton.1 hy
   exact ⟨tg_dig_ok _ _ _ hd, o9.1, n9⟩) (by simp [hne]) (by omega)).mono ?_
 rintro y w7 ⟨rfl, h9, t9, k9⟩
 have q1 : Blk w7 x.p 184 (cells8 (addL x.rd (ofL ks z b)) ++ cells8 x.wr) := by
  rw [← tg_rd x.p 184 x.rd x.wr _ hpt.2.2.2.2.1 hpt.2.2.2.2.2]
  exact t9.at_ 0 (by simp)
 have q2 : Blk w7 g9 173 (cells8 (addL d (ofL ks z b))) := by
  rw [← tg_dig g9 173 d _ hd]
  exact t9.at_ 1 (by simp)
 have hf := hm.fold2 (p9 := g9) hF (.inr ⟨(g9, 173, cells8 d), by simp, rfl⟩) h9 (k9.less fun j hj => ⟨hj.1, fun y hy => by
  rcases List.mem_cons.1 hy with rfl | hy
  ·exact fun e => hj.2.1 e.symm
  ·obtain rfl := List.mem_singleton.1 hy
   exact fun e => hj.2.2 e.symm⟩) q1 (addL_length _ _) hpt.2.2.2.2.2
 exact ⟨rfl, GuW.step1 (L1 := [_, _, _]) H hf.1 hf.2 q2⟩
end
section
variable {w0 w W W' : World} {k : Nat} {t : Wd} {Ox : Nat → Prop} {hs : List Held} {g gm nm : Nat} {s : Sto} {ks : List UInt8} {rc rn : Rc} {q lim : Int} {po : Bool} {F : Nat → Option Pt} {L L' : Gs}
theorem GuW.perm (h : GuW w0 w W k t Ox hs g gm nm s ks rc rn q lim po F L) (hp : L'.Perm L) : GuW w0 w W k t Ox hs g gm nm s ks rc rn q lim po F L' := by
 obtain ⟨Om, hm⟩ := h.st
 exact ⟨⟨Om, hm.lessO (fun j hj => hj.imp id (fun ⟨y, hy, e⟩ => ⟨y, hp.mem_iff.1 hy, e⟩))⟩, fun x hx => h.blk x (hp.mem_iff.1 hx), (hp.map _).nodup_iff.2 h.nd, fun j hj x hx => h.old j hj x (hp.mem_iff.1 hx), h.keep⟩
theorem own_blk {w : World} {base size n : Nat} {e : TypeId} {v : Value} {xs : List Value} (h : w.ownsRow base e size v n xs) (h0 : 0 < n) : ∃ g cap rest, v = .slice (some ⟨g, 0, none⟩) n cap ∧ base ≤ g ∧ Blk w g e (xs ++ rest) ∧ n ≤ cap ∧ cap ≤ maxLen := by
 rcases h.2 with ⟨_, h1⟩ | ⟨g, cap, cur, h1, h2, h3, h4, h5, h6, h7⟩
 ·omega
 ·refine ⟨g, cap, cur.toList.drop (n * size), h1, h2, ⟨?_⟩, h4, h5⟩
  rw [← h7, List.take_append_drop, Array.toArray_toList]
  exact h3
theorem GuW.row {n : Nat} {e : TypeId} {v : Value} {xs : List Value} (h : GuW w0 w W k t Ox hs g gm nm s ks rc rn q lim po F L) (hb : Below W.heap.size W W') (ho : W'.ownsRow W.heap.size e 1 v n xs) :
  ∃ Av cv Lv, v = .slice Av n cv ∧ GuW w0 w W' k t Ox hs g gm nm s ks rc rn q lim po F (L ++ Lv) ∧ ∀ j, j < n → ∃ gv cs, Av = some ⟨gv, 0, none⟩ ∧ (gv, e, cs) ∈ Lv ∧ cs[j]? = xs[j]? := by
 rcases Nat.eq_zero_or_pos n with h0 | h0
 ·obtain ⟨Av, cv, hv⟩ := own_sl ho
  exact ⟨Av, cv, [], hv, by rw [List.append_nil]; exact h.grow hb, fun j hj => by omega⟩
 ·obtain ⟨gv, cv, rest, hv, hg, hk, _, _⟩ := own_blk ho h0
  refine ⟨some ⟨gv, 0, none⟩, cv, [(gv, e, xs ++ rest)], hv, (h.new hb hk hg).perm ?_, fun j hj => ⟨gv, xs ++ rest, rfl, by simp, ?_⟩⟩
  ·exact List.perm_append_comm (l₁ := L) (l₂ := [(gv, e, xs ++ rest)])
  ·have h1 := ho.1
   rw [List.getElem?_append_left (by omega)]
end
section
variable {w0 w W W' : World} {k b : Nat} {t : Wd} {Om Ox : Nat → Prop} {hs : List Held} {g gm nm : Nat} {s : Sto} {ks : List UInt8} {rc rn : Rc} {q lim : Int} {po : Bool} {F : Nat → Option Pt} {L Ln : Gs}
theorem StM.growOwnS (h : StM w0 W k b t Om hs) (hb : Below W.heap.size W W') (S : Nat → Prop) (hg : ∀ j, S j → W.heap.size ≤ j ∧ j < W'.heap.size) : StM w0 W' k b t (fun j => Om j ∨ S j) hs := by
 obtain ⟨M, O, ad, p, L, hP, h1, h2, hh⟩ := h.is
 have hM : ∀ j, (fun j => M j ∨ S j) j → M j ∨ W.heap.size ≤ j := fun j hj => hj.imp id (fun e => (hg j e).1)
 refine ⟨⟨fun j => M j ∨ S j, O, ad, p, L, hP.chg (S := fun _ => False) (Chg.of_below _ hb) (fun _ h => h.elim) (fun _ h => h.elim) hM (fun _ h => .inl h) (fun j hj => ?_), fun j hj => ?_, fun j hj => ?_, fun x hx => (hh x hx).chg (S := fun _ => False) (Chg.of_below _ hb) (fun _ h => h.elim) hM⟩, h.below.trans (hb.mono h.below.size), h.small⟩
 ·rcases hj with h9 | h9
  ·exact Nat.lt_of_lt_of_le (hP.lt j h9) hb.size
  ·exact (hg j h9).2
 ·rcases hj with h9 | h9
  ·exact ⟨.inl (h1 j h9).1, (h1 j h9).2⟩
  ·exact ⟨.inr h9, fun ho => by have := hP.lt j (hP.sub j ho); have := (hg j h9).1; omega⟩
 ·rcases hj with h9 | h9
  ·exact h2 j h9
  ·have := h.below.size; have := (hg j h9).1; omega
theorem MemW.guestS (h : MemW w0 W k t Om Ox hs g gm nm s ks rc rn q lim po F) (hb : Below W.heap.size W W') (S : Nat → Prop) (hp : ∀ j, S j → W.heap.size ≤ j ∧ j < W'.heap.size) : MemW w0 W' k t (fun j => Om j ∨ S j) (fun j => Ox j ∨ S j) hs g gm nm s ks rc rn q lim po F := by
 have h1 := h.grow hb
 have hne : ∀ j p, Om j → S p → j ≠ p := fun j p hj hs e => by have := (h.st.lt hj).2; have := (hp p hs).1; omega
 exact ⟨h.st.growOwnS hb S hp, ⟨.inl h.mine.1, .inl h.mine.2.1, h.mine.2.2⟩, fun j hj => hj.elim (fun h9 => ⟨.inl (h.oth j h9).1, (h.oth j h9).2⟩) (fun e => ⟨.inr e, fun e2 => hne g j h.mine.1 e e2.symm, fun e2 => hne gm j h.mine.2.1 e e2.symm, fun i x hx => hne x.p j (h.pts i x hx).1 e⟩), h.key, h.sum, h1.mem, h1.map, fun i x hx => by
  obtain ⟨a1, a2⟩ := h1.pts i x hx
  exact ⟨.inl a1, a2⟩, h.inj, h.small⟩
theorem GuW.newS (h : GuW w0 w W k t Ox hs g gm nm s ks rc rn q lim po F L) (hb : Below W.heap.size W W') (hk : ∀ x ∈ Ln, Blk W' x.1 x.2.1 x.2.2 ∧ W.heap.size ≤ x.1) (hn : (Ln.map (·.1)).Nodup) : GuW w0 w W' k t Ox hs g gm nm s ks rc rn q lim po F (Ln ++ L) := by
 obtain ⟨Om, hm⟩ := h.st
 refine ⟨⟨_, (hm.guestS hb (fun j => ∃ x ∈ Ln, x.1 = j) (fun j ⟨x, hx, e⟩ => ⟨e ▸ (hk x hx).2, e ▸ (hk x hx).1.lt⟩)).lessO (fun j hj => ?_)⟩, fun x hx => ?_, ?_, fun j hj x hx => ?_, h.keep.trans ((hm.st.keepBelow hb).less fun j hj => (hm.oth j (.inl hj)).1)⟩
 ·rcases hj with h9 | ⟨x, hx, e⟩
  ·exact .inl (.inl h9)
  ·rcases List.mem_append.1 hx with hx | hx
   ·exact .inr ⟨x, hx, e⟩
   ·exact .inl (.inr ⟨x, hx, e⟩)
 ·rcases List.mem_append.1 hx with hx | hx
  ·exact (hk x hx).1
  ·exact (h.blk x hx).below hb (h.blk x hx).lt
 ·rw [List.map_append, List.nodup_append]
  refine ⟨hn, h.nd, fun a ha b hb9 e => ?_⟩
  obtain ⟨x, hx, rfl⟩ := List.mem_map.1 ha
  obtain ⟨y, hy, rfl⟩ := List.mem_map.1 hb9
  have h1 := (hk x hx).2
  have h2 := (h.blk y hy).lt
  have e2 : x.1 = y.1 := e
  omega
 ·rcases List.mem_append.1 hx with hx | hx
  ·intro e
   have := (hm.st.lt (hm.oth j (.inl hj)).1).2
   have := (hk x hx).2
   omega
  ·exact h.old j hj x hx
end
theorem flat_set {d : List UInt8} {rest : List Value} : ∀ (su : List (List UInt8)) (i : Nat), (∀ x ∈ su, x.length = 32) → i < su.length → (cells8 su.flatten ++ rest).take (i * 32) ++ cells8 d ++ (cells8 su.flatten ++ rest).drop (i * 32 + 32) = cells8 (su.set i d).flatten ++ rest := by
 intro su
 induction su with
 | nil => intro i _ h; simp at h
 | cons a su ih =>
  intro i hw hi
  have ha : (cells8 a).length = 32 := by rw [cells8_length]; exact hw a (by simp)
  obtain ⟨X, hX⟩ : ∃ X, X = cells8 su.flatten ++ rest := ⟨_, rfl⟩
  have e0 : cells8 (a :: su).flatten ++ rest = cells8 a ++ X := by rw [List.flatten_cons, cells8_append, List.append_assoc, hX]
  rw [e0]
  cases i with
  | zero => rw [Nat.zero_mul, List.take_zero, List.nil_append, Nat.zero_add, List.drop_left' ha, List.set_cons_zero, List.flatten_cons, cells8_append, List.append_assoc, hX]
  | succ n =>
   have h1 := ih n (fun x hx => hw x (by simp [hx])) (by simpa using hi)
   rw [← hX] at h1
   have e1 : (n + 1) * 32 = (cells8 a).length + n * 32 := by omega
   have e2 : (n + 1) * 32 + 32 = (cells8 a).length + (n * 32 + 32) := by omega
   rw [e2, e1, List.take_length_add_append, List.drop_length_add_append, List.set_cons_succ, List.flatten_cons, cells8_append, List.append_assoc, List.append_assoc, List.append_assoc, ← h1, List.append_assoc]
theorem mm_nw {s : Sto} {cn nw : List Value} {q lim : Int} {gm : Option Nat} {po : Bool} (h : s.hk.length = 16) (h1 : cn.length = 4) (h2 : nw.length = 4) (j : Nat) (hj : j < 4) : (mmL s cn nw q lim gm po)[23 + j]? = nw[j]? := by
 unfold mmL
 rw [List.getElem?_append_right (by rw [stL_length s h]; omega), stL_length s h, List.getElem?_append_right (by omega), h1, List.getElem?_append_left (by omega), show 23 + j - 19 - 4 = j by omega]
structure Lw (t : Wd) : Prop where
 lies : ∀ z l, t.lies z = some l → l.length ≤ 500000
 sl : ∀ x, inR t.n x = true → (t.sl x).length ≤ 500000
theorem Lw.read {t : Wd} (h : Lw t) (x : Int × Int) : Lw (readW t x) ∧ (readLw t x).length ≤ 500000 := by
 unfold readW readLw
 split
 ·next hth =>
  have hin : inR t.n x = true := by
   unfold thereW at hth
   simp only [Bool.and_eq_true] at hth
   exact hth.2
  refine ⟨⟨fun z l hz => ?_, h.sl⟩, ?_⟩
  ·have e : (if z = (t.reads : Int) then none else t.lies z) = some l := hz
   split at e
   ·cases e
   ·exact h.lies z l e
  ·unfold toldL
   cases e : t.lies (t.reads : Int) with
   | none => exact h.sl x hin
   | some l => exact h.lies _ l e
 ·exact ⟨h, Nat.zero_le _⟩
end Go.Proofs.YtcehkafddlfleaaGreatDoor
