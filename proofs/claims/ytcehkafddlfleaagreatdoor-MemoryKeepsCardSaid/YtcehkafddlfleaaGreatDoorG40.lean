/- 
   
   
    -/
import Derived.Test.YtcehkafddlfleaaGreatDoorG02
import Derived.Test.YtcehkafddlfleaaGreatDoorG39
import Derived.Test.YtcehkafddlfleaaGreatDoorG33
import Derived.Test.YtcehkafddlfleaaGreatDoorG37
namespace Go.Proofs.YtcehkafddlfleaaGreatDoor
open Go.RowKit
structure Tg where
 g : Nat
 o : Nat
 t : TypeId
 cs : List Value
 d : List UInt8
def Tg.ok (x : Tg) : Prop := x.o + 32 ≤ x.cs.length ∧ (x.cs.drop x.o).take 32 = cells8 x.d ∧ x.d.length = 32
def Tg.put (x : Tg) (d : List UInt8) : List Value := x.cs.take x.o ++ cells8 d ++ x.cs.drop (x.o + 32)
def Tg.add (x : Tg) (v : List UInt8) (b : Bool) : List Value := if b = true then x.put (addL x.d v) else x.cs
structure Tgs (w : World) (ts : List Tg) (v : List UInt8) (i : Nat) : Prop where
 at_ : ∀ j (h : j < ts.length), Blk w ts[j].g ts[j].t (ts[j].add v (decide (j < i)))
theorem Tgs.next {w w' : World} {ts : List Tg} {v : List UInt8} {i : Nat} (h : Tgs w ts v i) (hi : i < ts.length) (hn : (ts.map Tg.g).Nodup) (ho : Only ts[i].g w w') (hk : Blk w' ts[i].g ts[i].t (ts[i].put (addL ts[i].d v))) : Tgs w' ts v (i + 1) := ⟨fun j hj => by
 by_cases e : j = i
 ·subst e
  have e1 : decide (j < j + 1) = true := by simp
  rw [e1]
  exact hk
 ·have e1 : decide (j < i + 1) = decide (j < i) := by
   by_cases h1 : j < i
   ·rw [decide_eq_true h1, decide_eq_true (by omega)]
   ·rw [decide_eq_false h1, decide_eq_false (by omega)]
  rw [e1]
  refine (h.at_ j hj).only ho (fun e2 => e ?_)
  have h1 : (ts.map Tg.g)[j]'(by simpa using hj) = (ts.map Tg.g)[i]'(by simpa using hi) := by simpa using e2
  exact (List.getElem_inj hn).1 h1⟩
theorem Tgs.below {w w' : World} {ts : List Tg} {v : List UInt8} {i : Nat} (h : Tgs w ts v i) (hb : Below w.heap.size w w') : Tgs w' ts v i := ⟨fun j hj => (h.at_ j hj).below hb (h.at_ j hj).lt⟩
theorem Tgs.drew {w : World} {ts : List Tg} {v : List UInt8} {i : Nat} (h : Tgs w ts v i) : Tgs w.drew ts v i := ⟨fun j hj => (h.at_ j hj).drew⟩
theorem Only.cell {g : Nat} {w w' : World} {p : Addr} (ho : Only g w w') (hp : p.block ≠ g) : w'.cell? p = w.cell? p := World.cell?_of_block (w := w) (ho.block _ hp)
structure FoldI (w0 w wr : World) (k : Nat) (s : Sto) (t : Wd) (Om : Nat → Prop) (hs : List Held) (ts : List Tg) (v : List UInt8) (g6 gp i : Nat) : Prop where
 st : StM w0 wr k s.b t (fun j => Om j ∨ j = g6) hs
 tg : Tgs wr ts v i
 var : Blk wr g6 173 (cells8 v)
 ptr : ∀ j (hj : j < ts.length), wr.cell? ⟨gp, j, none⟩ = some (.pointer (some ⟨ts[j].g, ts[j].o, none⟩))
 keep : Keep (fun j => Om j ∧ ∀ x ∈ ts, x.g ≠ j) w wr
 gpl : gp < wr.heap.size
theorem FoldI.below {w0 w wr w' : World} {k : Nat} {s : Sto} {t : Wd} {Om : Nat → Prop} {hs : List Held} {ts : List Tg} {v : List UInt8} {g6 gp i : Nat} (h : FoldI w0 w wr k s t Om hs ts v g6 gp i) (hb : Below wr.heap.size wr w') : FoldI w0 w w' k s t Om hs ts v g6 gp i :=
 ⟨h.st.grow hb, h.tg.below hb, h.var.below hb h.var.lt, fun j hj => (hb.cell h.gpl).trans (h.ptr j hj), h.keep.trans ((h.st.keepBelow hb).less fun _ h => .inl h.1), Nat.lt_of_lt_of_le h.gpl hb.size⟩
theorem FoldI.next {w0 w wr w' : World} {k : Nat} {s : Sto} {t : Wd} {Om : Nat → Prop} {hs : List Held} {ts : List Tg} {v : List UInt8} {g6 gp i : Nat} (h : FoldI w0 w wr k s t Om hs ts v g6 gp i) (hi : i < ts.length) (hnd : (ts.map Tg.g).Nodup) (hok : ts[i].ok ∧ Om ts[i].g ∧ ts[i].g ≠ gp) (h6 : ts[i].g ≠ g6) (ho : Only ts[i].g wr w') (hk : Blk w' ts[i].g ts[i].t (ts[i].put (addL ts[i].d v))) : FoldI w0 w w' k s t Om hs ts v g6 gp (i + 1) :=
 ⟨h.st.only ho (.inl hok.2.1), h.tg.next hi hnd ho hk, h.var.only ho (fun e => h6 e.symm), fun j hj => (ho.cell (fun e => hok.2.2 e.symm)).trans (h.ptr j hj), h.keep.trans (Keep.only ho (fun h9 => h9.2 _ (List.getElem_mem hi) rfl)), by rw [ho.size]; exact h.gpl⟩
section
variable {w0 w : World} {k : Nat} {t : Wd} {Om : Nat → Prop} {hs : List Held} {s : Sto}
set_option maxHeartbeats 1000000 in
theorem folder_any (P : Option Addr) (m c : Nat) (w : World) :
  Calls Tryz.prog 85 #[.agg (stL s).toArray, .slice P m c] w fun e w' => ∃ g1 g2, e = .returned (.func (.func 142) #[] #[.pointer (some ⟨g1, 0, none⟩), .pointer (some ⟨g2, 0, none⟩)]) ∧ w.heap.size ≤ g1 ∧ g1 < g2 ∧ Blk w' g1 119 (stL s) ∧ Blk w' g2 231 [.slice P m c] ∧ Below w.heap.size w w' := by
 go_enter Tryz.func85, Tryz.ntmps85
 go_wp2_with (with_reducible refine wpList_box (o := ⟨some 2, _, _, _, _, _⟩) (cs := stL s) rfl (.tmp 0) rfl rfl ?_)
 intro w1 hk1 hb1 hs1
 have HK1 : Kp _ := ⟨hk1⟩
 have HB1 : Kp _ := ⟨hb1⟩
 clear hk1 hb1 hs1
 go_wp2
 go_ret
 refine ⟨_, _, rfl, Nat.le_refl _, HK1.out.lt, HK1.out.alloc _, ⟨by show (w1.heap.push _)[w1.heap.size]? = _; simp⟩, HB1.out.alloc HB1.out.size _⟩
set_option maxRecDepth 100000 in
set_option maxHeartbeats 4000000 in
theorem fold_any (h : StM w0 w k s.b t Om hs) (hkey : s.hk.length = 16) (ks : List UInt8) (hm : (s.SA, 32, s.sc, ks) ∈ hs) (A : Option Addr) (n c : Nat) (l : List UInt8) (hl : (A, n, c, l) ∈ hs) (hn : n ≤ 523000) (z : Int)
  (g1 g2 gp m pc : Nat) (ts : List Tg) (hT : ts.length = m) (hk1 : Blk w g1 119 (stL s)) (hk2 : Blk w g2 231 [.slice (some ⟨gp, 0, none⟩) m pc])
  (hkp : ∀ j (hj : j < ts.length), w.cell? ⟨gp, j, none⟩ = some (.pointer (some ⟨ts[j].g, ts[j].o, none⟩))) (hgp : gp < w.heap.size) (hts : Tgs w ts (ofL ks z l) 0) (hok : ∀ x ∈ ts, x.ok ∧ Om x.g ∧ x.g ≠ gp) (hnd : (ts.map Tg.g).Nodup) (hm9 : m ≤ 1000) :
  Calls Tryz.prog 142 #[.int .i64 z, .slice A n c, .pointer (some ⟨g1, 0, none⟩), .pointer (some ⟨g2, 0, none⟩)] w fun e w' => e = .returned (.tuple #[]) ∧ StM w0 w' k s.b t Om hs ∧ Tgs w' ts (ofL ks z l) m ∧ Keep (fun j => Om j ∧ ∀ x ∈ ts, x.g ≠ j) w w' := by
 have H : Kp _ := ⟨h⟩
 have HT : Kp _ := ⟨hts⟩
 have HOk : Kp _ := ⟨hok⟩
 have HNd : Kp _ := ⟨hnd⟩
 have HLt : Kp (ts.length = m) := ⟨hT⟩
 have HP : Kp (gp < w.heap.size ∧ ∀ j (hj : j < ts.length), w.cell? ⟨gp, j, none⟩ = some (.pointer (some ⟨ts[j].g, ts[j].o, none⟩))) := ⟨hgp, hkp⟩
 have c2 : w.cell? ⟨g1, 17, none⟩ = some (.slice s.SA 32 s.sc) := by rw [hk1.cell? 17]; exact stL_17 s hkey
 have HK2 : Kp _ := ⟨hk2⟩
 have HHl : Kp (Bs w w.heap.size s.SA 32 s.sc ks ∧ Bs w w.heap.size A n c l) := ⟨(h.held hm).1, (h.held hl).1⟩
 obtain ⟨v, hv⟩ : ∃ v, v = ofL ks z l := ⟨_, rfl⟩
 have HV : Kp (v = ofL ks z l) := ⟨hv⟩
 have HVl : Kp ((cells8 v).length = 32 ∧ v.length = 32) := ⟨by rw [hv, cells8_length, ofL_length], by rw [hv, ofL_length]⟩
 rw [← hv] at HT ⊢
 have HZ : Kp (zero32.length = 32) := ⟨rfl⟩
 have HO : Kp _ := ⟨cells8_one v⟩
 clear h hts hok hnd hT hgp hkp hk1 hk2 hv
 go_enter Tryz.func142, Tryz.ntmps142
 go_wp2_with fail
 refine (of_any s.SA 32 s.sc ks z A n c l w HHl.out.1 HHl.out.2 (by omega) hn).mono ?_
 rintro e w1 ⟨rfl, hb1⟩
 rw [← HV.out]
 have H1 : Kp _ := ⟨H.out.grow hb1⟩
 have HKe : Kp _ := ⟨H.out.keepBelow hb1⟩
 have HT1 : Kp _ := ⟨HT.out.below hb1⟩
 have HP1 : Kp (gp < w1.heap.size ∧ ∀ j (hj : j < ts.length), w1.cell? ⟨gp, j, none⟩ = some (.pointer (some ⟨ts[j].g, ts[j].o, none⟩))) := ⟨Nat.lt_of_lt_of_le HP.out.1 hb1.size, fun j hj => (hb1.cell HP.out.1).trans (HP.out.2 j hj)⟩
 have HK21 : Kp _ := ⟨HK2.out.below hb1 HK2.out.lt⟩
 clear hb1 H HT HP HK2 c2 HHl
 go_wp2_with (with_reducible refine wpList_alloc (o := ⟨some 6, _, _, _, _, _⟩) tyDig rfl rfl ?_)
 intro w2 hk6 hb2 hs2
 have HK6 : Kp _ := ⟨hk6⟩
 have H2 : Kp _ := ⟨H1.out.box hk6 hb2⟩
 have HKe2 : Kp (Keep Om w w2) := ⟨HKe.out.trans (H1.out.keepBelow hb2)⟩
 have HT2 : Kp _ := ⟨HT1.out.below hb2⟩
 have HP2 : Kp (gp < w2.heap.size ∧ ∀ j (hj : j < ts.length), w2.cell? ⟨gp, j, none⟩ = some (.pointer (some ⟨ts[j].g, ts[j].o, none⟩))) := ⟨Nat.lt_of_lt_of_le HP1.out.1 hb2.size, fun j hj => (hb2.cell HP1.out.1).trans (HP1.out.2 j hj)⟩
 have HK22 : Kp _ := ⟨HK21.out.below hb2 HK21.out.lt⟩
 have HNe : Kp (gp < w1.heap.size ∧ ∀ x ∈ ts, x.g < w1.heap.size) := ⟨HP1.out.1, fun x hx => (H1.out.lt (HOk.out x hx).2.1).2⟩
 have HNo : Kp ((∀ j, Om j → j ≠ w1.heap.size) ∧ g2 ≠ w1.heap.size) := ⟨fun j hj e => by have := (H1.out.lt hj).2; omega, fun e => by have := HK21.out.lt; omega⟩
 obtain ⟨g6, hg6⟩ : ∃ g, g = w1.heap.size := ⟨_, rfl⟩
 rw [← hg6] at HK6 HNe H2 HNo ⊢
 clear hk6 hb2 hs2 hg6 HT1 HP1 HK21 H1 HKe
 go_wp2_with (with_reducible refine wpList_storeAll (o := ⟨none, _, _, _, _, _⟩) (vs := cells8 v) rwDig rfl (.tmp 6) (.tmp 13) rfl rfl HK6.out HZ.out HVl.out.1 HO.out rfl ?_)
 intro w3 hk6 ho3
 have HI : Kp (FoldI w0 w w3 k s t Om hs ts v g6 gp 0) := ⟨⟨H2.out.only ho3 (.inr rfl), ⟨fun j hj => (HT2.out.at_ j hj).only ho3 (fun e => by have := HNe.out.2 ts[j] (List.getElem_mem hj); omega)⟩, hk6, fun j hj => (ho3.cell (by show gp ≠ g6; have := HNe.out.1; omega)).trans (HP2.out.2 j hj), (HKe2.out.less (fun _ h => h.1)).trans (Keep.only ho3 (fun h => HNo.out.1 g6 h.1 rfl)), by rw [ho3.size]; exact HP2.out.1⟩⟩
 have c2 : w3.cell? ⟨g2, 0, none⟩ = some (.slice (some ⟨gp, 0, none⟩) m pc) := (HK22.out.only ho3 HNo.out.2).cell? 0
 clear hk6 ho3 HK6 H2 HKe2 HT2 HP2 HK22
 have hm63 : (m : Int) < 100000 := by omega
 go_wp2
 go_loopg [16] m (fun gk v16 wr => ∃ i : Nat, i + gk = m ∧ v16 = .int .i64 i ∧ Kp (FoldI w0 w wr k s t Om hs ts v g6 gp i))
 case atStart => exact ⟨0, by omega, rfl, HI⟩
 case round =>
  clear HI c2
  obtain ⟨i, hi, rfl, HI⟩ := hrel
  cases gk with
  | zero =>
   have hlt : ¬ ((i : Int) < (m : Int)) := by omega
   obtain rfl : i = m := by omega
   go_wp2
   go_end0
   exact ⟨rfl, HI.out.st.less (fun _ h => .inl h), HI.out.tg, HI.out.keep⟩
  | succ gk =>
   have hlt : (i : Int) < (m : Int) := by omega
   have him : i < m := by omega
   have hit : i < ts.length := by rw [HLt.out]; exact him
   have q := HI.out.ptr i hit
   have hx := HI.out.tg.at_ i hit
   have e0 : ts[i].add v (decide (i < i)) = ts[i].cs := by simp [Tg.add]
   rw [e0] at hx
   have HXo : Kp _ := ⟨HOk.out ts[i] (List.getElem_mem hit)⟩
   have HNx : Kp _ := ⟨fun w' (ho : Only ts[i].g wr w') (hk : Blk w' ts[i].g ts[i].t (ts[i].put (addL ts[i].d v))) => HI.out.next hit HNd.out (HOk.out _ (List.getElem_mem hit)) (by have := HNe.out.2 _ (List.getElem_mem hit); omega) ho hk⟩
   have HGr : Kp (∀ W, Below wr.heap.size wr W → FoldI w0 w W k s t Om hs ts v g6 gp i) := ⟨fun W hW => HI.out.below hW⟩
   have HNx2 : Kp (∀ W w', FoldI w0 w W k s t Om hs ts v g6 gp i → Only ts[i].g W w' → Blk w' ts[i].g ts[i].t (ts[i].put (addL ts[i].d v)) → FoldI w0 w w' k s t Om hs ts v g6 gp (i + 1)) := ⟨fun W w' hI ho hk => hI.next hit HNd.out (HOk.out _ (List.getElem_mem hit)) (by have := HNe.out.2 _ (List.getElem_mem hit); omega) ho hk⟩
   have HK6 : Kp _ := ⟨HI.out.var⟩
   obtain ⟨x, hxe⟩ : ∃ x, x = ts[i] := ⟨_, rfl⟩
   rw [← hxe] at q hx HXo HNx2
   have HX : Kp _ := ⟨hx⟩
   obtain ⟨y, hy⟩ : ∃ y, y = addL x.d v := ⟨_, rfl⟩
   have HAdd : Kp (∀ W, Calls Tryz.prog 144 #[.agg (cells8 x.d).toArray, .agg (cells8 v).toArray] W fun e w' => e = .returned (.agg (cells8 y).toArray) ∧ Below W.heap.size W w') := ⟨fun W => by rw [hy]; exact sadd_any x.d v W HXo.out.1.2.2 HVl.out.2⟩
   have HYl : Kp ((cells8 y).length = 32) := ⟨by rw [hy, cells8_length, addL_length]⟩
   have HYo : Kp _ := ⟨cells8_one y⟩
   rw [← hy] at HNx2
   clear hy
   have hB9 : Below wr.heap.size wr wr := Below.refl _ _
   clear hx e0 HNx hxe HI
   go_wp2_with fail
   refine wp_region_any (by kernel_rfl) ?_
   change wpAny _ _ _ _ _ _ _ wr.drew
   replace HX : Kp _ := ⟨HX.out.drew⟩
   replace HK6 : Kp _ := ⟨HK6.out.drew⟩
   replace hB9 := hB9.drew
   generalize wr.drew = wS at *
   refine wT 0 20 ?_ rfl ?_
   try simp only [Act.put, sA, sB, sC]
   refine wT 1 21 ?_ rfl ?_
   try simp only [Act.put, sA, sB, sC]
   refine wT 2 22 ?_ rfl ?_
   try simp only [Act.put, sA, sB, sC]
   refine rK [3, 4] ?_
   refine aS 23 24 rfl rfl (fun K hK => ?_) fun K hK => ?_
   ·refine step_load rwDig rfl (.tmp 22) rfl rfl HX.out HXo.out.1.1 HXo.out.1.2.1 ?_
    refine hK _ _ ?_
    clear hK K
    try simp only [Act.put, sA, sB, sC]
    refine rK [4] ?_
    refine aR 24 rfl fun K hK => ?_
    refine step_load rwDig rfl (.tmp 6) rfl rfl HK6.out (fit_all32 HVl.out.1) (take_all32 HVl.out.1) ?_
    refine hK _ _ ?_
    clear hK K
    try simp only [Act.put, sA, sB, sC]
    refine rK [5] ?_
    refine aR 25 rfl fun K hK => ?_
    go_simp
    refine (HAdd.out wS).mono ?_
    rintro e w61 ⟨rfl, hb'⟩
    refine hK _ _ ?_
    clear hK K
    try simp only [Act.put, sA, sB, sC]
    replace HX : Kp _ := ⟨HX.out.below hb' HX.out.lt⟩
    replace HK6 : Kp _ := ⟨HK6.out.below hb' HK6.out.lt⟩
    replace hB9 := hB9.trans (hb'.mono hB9.size)
    clear hb'
    refine wT 6 26 ?_ rfl ?_
    try simp only [Act.put, sA, sB, sC]
    refine rK [7] ?_
    refine AllReady.cons (o := ⟨none, _, _, _, _, _⟩) rfl (fun K hK => ?_) AllReady.nil
    refine step_store rwDig rfl (.tmp 26) (.tmp 25) rfl rfl rfl HX.out HYl.out HXo.out.1.1 HYo.out ?_
    intro w62 hk' ho'
    have HN : Kp _ := ⟨HNx2.out _ _ (HGr.out _ hB9) ho' hk'⟩
    clear hk' ho' HX HK6
    refine hK _ _ ?_
    clear hK K
    try simp only [Act.put]
    refine wpAny_done (by kernel_rfl) ?_ _
    go_wp2
    go_roundg gk
    case measure => omega
    case rel => exact ⟨i + 1, by omega, by go_num, HN⟩
   ·refine step_load rwDig rfl (.tmp 6) rfl rfl HK6.out (fit_all32 HVl.out.1) (take_all32 HVl.out.1) ?_
    refine hK _ _ ?_
    clear hK K
    try simp only [Act.put, sA, sB, sC]
    refine rK [3] ?_
    refine aR 23 rfl fun K hK => ?_
    refine step_load rwDig rfl (.tmp 22) rfl rfl HX.out HXo.out.1.1 HXo.out.1.2.1 ?_
    refine hK _ _ ?_
    clear hK K
    try simp only [Act.put, sA, sB, sC]
    refine rK [5] ?_
    refine aR 25 rfl fun K hK => ?_
    go_simp
    refine (HAdd.out wS).mono ?_
    rintro e w63 ⟨rfl, hb'⟩
    refine hK _ _ ?_
    clear hK K
    try simp only [Act.put, sA, sB, sC]
    replace HX : Kp _ := ⟨HX.out.below hb' HX.out.lt⟩
    replace HK6 : Kp _ := ⟨HK6.out.below hb' HK6.out.lt⟩
    replace hB9 := hB9.trans (hb'.mono hB9.size)
    clear hb'
    refine wT 6 26 ?_ rfl ?_
    try simp only [Act.put, sA, sB, sC]
    refine rK [7] ?_
    refine AllReady.cons (o := ⟨none, _, _, _, _, _⟩) rfl (fun K hK => ?_) AllReady.nil
    refine step_store rwDig rfl (.tmp 26) (.tmp 25) rfl rfl rfl HX.out HYl.out HXo.out.1.1 HYo.out ?_
    intro w64 hk' ho'
    have HN : Kp _ := ⟨HNx2.out _ _ (HGr.out _ hB9) ho' hk'⟩
    clear hk' ho' HX HK6
    refine hK _ _ ?_
    clear hK K
    try simp only [Act.put]
    refine wpAny_done (by kernel_rfl) ?_ _
    go_wp2
    go_roundg gk
    case measure => omega
    case rel => exact ⟨i + 1, by omega, by go_num, HN⟩
end
end Go.Proofs.YtcehkafddlfleaaGreatDoor

namespace Go.Proofs.YtcehkafddlfleaaGreatDoor
open Go.RowKit
section
variable {w0 w : World} {k : Nat} {t : Wd} {Om : Nat → Prop} {hs : List Held} {s : Sto}
set_option maxRecDepth 100000 in
set_option maxHeartbeats 4000000 in
theorem scert_any (h : StM w0 w k s.b t Om hs) (hk : k + 2 ≤ 1000000) (hKy : s.hk.length = 16) (kt : List UInt8) (hm : (s.TA, 32, s.tc, kt) ∈ hs) (r : Rc) (A : Option Addr) (n c : Nat) (D : Option Addr) (m e : Nat) (hR : Rs w w.heap.size A n c D m e r) (N : Nat) (hN : N = r.num + 1) (hn : N < 18446744073709551616)
  (hT : Rt ⟨N, r.blk, r.sl, r.su⟩) (hE : (encL kt ⟨N, r.blk, r.sl, r.su⟩).length ≤ 1000000) (hS : sealB t ((N % 2 : Nat) : Int) (encL kt ⟨N, r.blk, r.sl, r.su⟩) = true) (hB : bumpB (sealedW t ((N % 2 : Nat) : Int) (encL kt ⟨N, r.blk, r.sl, r.su⟩)) = true) :
  Calls Tryz.prog 86 #[.agg (stL s).toArray, rcV r A n c D m e] w fun x w' => x = .returned (.tuple #[rcV ⟨N, r.blk, r.sl, r.su⟩ A n c D m e, .nilIface]) ∧ StM w0 w' (k + 2) s.b (bumpW (sealedW t ((N % 2 : Nat) : Int) (encL kt ⟨N, r.blk, r.sl, r.su⟩))) Om hs ∧ Keep Om w w' := by
 obtain ⟨num, blk, sl, su⟩ := r
 simp only at hN hT hE hS hB ⊢
 have H : Kp _ := ⟨h⟩
 have HR : Kp (∀ W, Below w.heap.size w W → Rs W W.heap.size A n c D m e ⟨N, blk, sl, su⟩) := ⟨fun W hW => ⟨hn, hR.blk, hR.sl.next hW (Nat.le_refl _), hR.su.next hW (Nat.le_refl _)⟩⟩
 have HT : Kp _ := ⟨hT⟩
 have HE : Kp _ := ⟨hE⟩
 have HS : Kp _ := ⟨hS⟩
 have HBu : Kp _ := ⟨hB⟩
 have HSl : Kp ((stL s).length = 19 ∧ s.hk.length = 16) := ⟨stL_length s hKy, hKy⟩
 have HSo : Kp _ := ⟨stL_one s⟩
 clear h hR hT hE hS hB
 go_enter Tryz.func86, Tryz.ntmps86
 go_wp2_with (with_reducible refine wpList_box (o := ⟨some 2, _, _, _, _, _⟩) (cs := stL s) rfl (.tmp 0) rfl rfl ?_)
 intro w1 hk1 hb1 hs1
 have H1 : Kp _ := ⟨H.out.box hk1 hb1⟩
 have HK1 : Kp _ := ⟨hk1⟩
 have HKe1 : Kp _ := ⟨H.out.keepBelow hb1⟩
 have HB1 : Kp _ := ⟨hb1⟩
 obtain ⟨g2, hg2⟩ : ∃ g, g = w.heap.size := ⟨_, rfl⟩
 have HG2 : Kp (w.heap.size = g2 ∧ ∀ j, Om j → j < g2) := ⟨hg2.symm, fun j hj => by rw [hg2]; exact (H.out.lt hj).2⟩
 rw [← hg2] at HK1 H1 ⊢
 clear hk1 hb1 hs1 H hg2
 go_wp2_with (with_reducible refine wpList_box (o := ⟨some 3, _, _, _, _, _⟩) (cs := rcL num blk A n c D m e) rfl (.tmp 1) rfl rfl ?_)
 intro w2 hk2 hb2 hs2
 have H2 : Kp _ := ⟨H1.out.box hk2 hb2⟩
 have HK3 : Kp _ := ⟨hk2⟩
 have HK2 : Kp _ := ⟨HK1.out.below hb2 HK1.out.lt⟩
 have HKe2 : Kp (Keep Om w w2) := ⟨HKe1.out.trans ((H1.out.keepBelow hb2).less fun _ h => .inl h)⟩
 have HB2 : Kp (Below w.heap.size w w2) := ⟨HB1.out.trans (hb2.mono HB1.out.size)⟩
 have h23 : g2 < w1.heap.size := HK1.out.lt
 obtain ⟨g3, hg3⟩ : ∃ g, g = w1.heap.size := ⟨_, rfl⟩
 rw [← hg3] at HK3 H2 h23 ⊢
 clear hk2 hb2 hs2 HK1 H1 HKe1 HB1 hg3
 go_wp2_with (with_reducible refine wpList_alloc (o := ⟨some 4, _, _, _, _, _⟩) tySeal rfl rfl ?_)
 intro w3 hk3 hb3 hs3
 have H3 : Kp _ := ⟨H2.out.box hk3 hb3⟩
 have HK4 : Kp _ := ⟨hk3⟩
 have HK33 : Kp _ := ⟨HK3.out.below hb3 HK3.out.lt⟩
 have HK23 : Kp _ := ⟨HK2.out.below hb3 HK2.out.lt⟩
 have HKe3 : Kp (Keep Om w w3) := ⟨HKe2.out.trans ((H2.out.keepBelow hb3).less fun _ h => .inl (.inl h))⟩
 have HB3 : Kp (Below w.heap.size w w3) := ⟨HB2.out.trans (hb3.mono HB2.out.size)⟩
 have h34 : g3 < w2.heap.size := HK3.out.lt
 obtain ⟨g4, hg4⟩ : ∃ g, g = w2.heap.size := ⟨_, rfl⟩
 rw [← hg4] at HK4 H3 h34 ⊢
 have HLt : Kp (w.heap.size = g2 ∧ g2 < g3 ∧ g3 < g4 ∧ ∀ j, Om j → j < g2) := ⟨HG2.out.1, h23, h34, HG2.out.2⟩
 clear hk3 hb3 hs3 HK2 HK3 H2 HKe2 HB2 hg4 h23 h34 HG2
 have c0 : w3.cell? ⟨g3, 0, none⟩ = some (.int .u64 (num : Int)) := HK33.out.cell? 0
 have f0 := HK33.out.frozen 0
 have hne : ((num : Int) == 18446744073709551615) = false := by rw [beq_eq_false_iff_ne]; omega
 have hadd : IntKind.u64.wrap ((num : Int) + 1) = (N : Int) := by rw [IntKind.wrap_u64]; omega
 go_upto_region 4 with fail
 have hNe : ((num : Int) + 1) = (N : Int) := by omega
 rw [hNe]
 have ho := Only.setCell w3 ⟨g3, 0, none⟩ (.int .u64 (N : Int))
 have HK3n : Kp (Blk (w3.setCell ⟨g3, 0, none⟩ (.int .u64 (N : Int))) g3 63 (rcL N blk A n c D m e)) := ⟨HK33.out.set 0 (.int .u64 (N : Int))⟩
 have HK2n : Kp _ := ⟨HK23.out.only ho (by show g2 ≠ g3; have := HLt.out; omega)⟩
 have HK4n : Kp _ := ⟨HK4.out.only ho (by show g4 ≠ g3; have := HLt.out; omega)⟩
 have H4 : Kp _ := ⟨H3.out.only ho (.inl (.inr rfl))⟩
 have HKe4 : Kp _ := ⟨HKe3.out.trans (Keep.only ho (fun h9 => by have h8 := HLt.out.2.2.2 _ h9; have := HLt.out; simp at h8; omega))⟩
 have HB4 : Kp _ := ⟨HB3.out.trans (ho.below (by show w.heap.size ≤ g3; have := HLt.out; omega))⟩
 generalize w3.setCell ⟨g3, 0, none⟩ (.int .u64 (N : Int)) = w4 at *
 clear ho hNe hadd c0 f0 hne HK33 HK23 HK4 H3 HKe3 HB3 hN
 have c18 : w4.cell? ⟨g2, 18, none⟩ = some (.slice s.TA 32 s.tc) := by rw [HK2n.out.cell? 18]; exact stL_18 s HSl.out.2
 go_wp2_with (with_reducible refine wpList_loadAll (o := ⟨some 23, _, _, _, _, _⟩) rwSeal rfl (.tmp 3) rfl rfl HK3n.out rfl ?_)
 refine (encode_own kt s.TA 32 s.tc ⟨N, blk, sl, su⟩ A n c D m e w4 (H4.out.held hm).1 (HR.out _ HB4.out) (by omega)).mono ?_
 rintro x w5 ⟨hb5, ⟨hno, _⟩ | ⟨_, A5, c5, rfl, ho5⟩⟩
 ·exact absurd HT.out hno
 obtain ⟨E, hE⟩ : ∃ E, E = encL kt ⟨N, blk, sl, su⟩ := ⟨_, rfl⟩
 have HEq : Kp (E = encL kt ⟨N, blk, sl, su⟩) := ⟨hE⟩
 rw [← hE] at ho5 HE HS HBu ⊢
 obtain ⟨L, hL⟩ : ∃ L, L = E.length := ⟨_, rfl⟩
 rw [← hL] at ho5 HE ⊢
 have hLe := HE.out
 have H5 : Kp _ := ⟨H4.out.growHold hb5 ⟨Bs.of_own' ho5, Fr.own ho5⟩ (by omega)⟩
 have HK35 : Kp _ := ⟨HK3n.out.below hb5 HK3n.out.lt⟩
 have HK25 : Kp _ := ⟨HK2n.out.below hb5 HK2n.out.lt⟩
 have HK45 : Kp _ := ⟨HK4n.out.below hb5 HK4n.out.lt⟩
 have HKe5 : Kp (Keep Om w w5) := ⟨HKe4.out.trans ((H4.out.keepBelow hb5).less fun _ h => .inl (.inl (.inl h)))⟩
 clear hb5 ho5 hE hL HK3n HK2n HK4n H4 HKe4 HB4 c18 HR
 have c0 : w5.cell? ⟨g2, 0, none⟩ = some (.pointer (some ⟨s.b, 0, none⟩)) := HK25.out.cell? 0
 have c3 : w5.cell? ⟨g3, 0, none⟩ = some (.int .u64 (N : Int)) := HK35.out.cell? 0
 have hmod : (N : Int).tmod 2 = ((N % 2 : Nat) : Int) := by rw [Int.tmod_eq_emod_of_nonneg (by omega)]; omega
 have hm2 : N % 2 < 2 := Nat.mod_lt _ (by omega)
 obtain ⟨q, hq⟩ : ∃ q, q = N % 2 := ⟨_, rfl⟩
 rw [← hq] at hmod hm2 HS HBu
 have HQ : Kp (q = N % 2) := ⟨hq⟩
 clear hq
 go_wp2_with fail
 refine (sw_seal H5.out (by omega) (q : Int) (A := A5) (n := L) (c := c5) (l := E) (by simp)).mono ?_
 rintro x w6 ⟨rfl, h6, k6⟩
 rw [HS.out]
 have H6 : Kp _ := ⟨h6⟩
 have HK36 : Kp _ := ⟨k6.blk HK35.out (.inl (.inr rfl))⟩
 have HK26 : Kp _ := ⟨k6.blk HK25.out (.inl (.inl (.inr rfl)))⟩
 have HK46 : Kp _ := ⟨k6.blk HK45.out (.inr rfl)⟩
 have HKe6 : Kp (Keep Om w w6) := ⟨HKe5.out.trans (k6.less fun _ h => .inl (.inl (.inl h)))⟩
 clear h6 k6 HK35 HK25 HK45 H5 HKe5 c0 c3 hmod hm2
 go_wp2_with (with_reducible refine wpList_loadAll (o := ⟨some 39, _, _, _, _, _⟩) rwSto rfl (.tmp 2) rfl rfl HK26.out HSl.out.1 ?_)
 refine (sbump_any H6.out (by omega) HBu.out).mono ?_
 rintro x w7 ⟨rfl, h7, k7⟩
 have H7 : Kp _ := ⟨h7⟩
 have HK37 : Kp _ := ⟨k7.blk HK36.out (.inl (.inr rfl))⟩
 have HK47 : Kp _ := ⟨k7.blk HK46.out (.inr rfl)⟩
 have HKe7 : Kp (Keep Om w w7) := ⟨HKe6.out.trans (k7.less fun _ h => .inl (.inl (.inl h)))⟩
 clear h7 k7 HK36 HK46 H6 HKe6 HK26
 go_wp2_with (first
  | (with_reducible refine wpList_loadAll (o := ⟨some 45, _, _, _, _, _⟩) rwSeal rfl (.tmp 3) rfl rfl HK37.out rfl ?_)
  | (with_reducible refine wpList_storeAll (o := ⟨none, _, _, _, _, _⟩) (vs := rcL N blk A n c D m e) rwSeal rfl (.tmp 4) (.tmp 45) rfl rfl HK47.out rfl rfl (rcL_one _ _ _ _ _ _ _ _) rfl ?_))
 intro w8 hk8 ho8
 have HK8 : Kp _ := ⟨hk8⟩
 have H8 : Kp _ := ⟨((H7.out.only ho8 (.inr rfl)).less (Om' := Om) (fun _ h => .inl (.inl (.inl h)))).forget (hs' := hs) (fun _ h => List.mem_cons_of_mem _ h)⟩
 have HKe8 : Kp _ := ⟨HKe7.out.trans (Keep.only ho8 (fun h9 => by have h8 := HLt.out.2.2.2 _ h9; have := HLt.out; omega))⟩
 clear hk8 ho8 H7 HKe7 HK47 HK37
 go_wp2
 refine ret_two rfl rwSeal rfl rfl HK8.out rfl rfl ?_
 rw [← HEq.out, ← HQ.out]
 exact ⟨rfl, H8.out, HKe8.out⟩
end
end Go.Proofs.YtcehkafddlfleaaGreatDoor

namespace Go.Proofs.YtcehkafddlfleaaGreatDoor
structure Hw (t : Wd) : Prop where
 lost : t.lost = false
 lim : t.lim = false
 lies : ∀ z, t.lies z = none
structure SameW (t t' : Wd) : Prop where
 n : t'.n = t.n
 sl : t'.sl = t.sl
 s0 : t'.s0 = t.s0
 s1 : t'.s1 = t.s1
 ctr : t'.ctr = t.ctr
variable {t : Wd}
theorem hw_new (N : Nat) : Hw (newW N) := ⟨rfl, rfl, fun _ => rfl⟩
theorem hw_tell (h : Hw t) (a b c : Int) (l : List UInt8) : Hw (tellW t a b c l) ∧ SameW t (tellW t a b c l) := ⟨⟨h.lost, h.lim, fun z => by show (if _ then _ else _) = _; split <;> simp [h.lies]⟩, rfl, rfl, rfl, rfl, rfl⟩
theorem hw_told (h : Hw t) (l : List UInt8) : toldL t l = l := by unfold toldL; rw [h.lies]; rfl
theorem hw_there (h : Hw t) (x : Int × Int) : thereW t x = inR t.n x := by unfold thereW; rw [h.lost]; rfl
theorem hw_read (h : Hw t) {x : Int × Int} (hx : inR t.n x = true) : readLw t x = t.sl x ∧ Hw (readW t x) ∧ SameW t (readW t x) := by
 have e : thereW t x = true := (hw_there h x).trans hx
 unfold readLw readW
 rw [if_pos e, if_pos e]
 exact ⟨hw_told h _, hw_tell h _ _ _ _⟩
theorem hw_look (h : Hw t) {i : Int} (hi : i = 0 ∨ i = 1) : lookL t i = sealL t i ∧ Hw (lookW t i) ∧ SameW t (lookW t i) := by
 have e : sealW t i = true := by unfold sealW; rw [h.lost]; rcases hi with rfl | rfl <;> rfl
 unfold lookL lookW
 rw [if_pos e, if_pos e]
 exact ⟨hw_told h _, hw_tell h _ _ _ _⟩
theorem hw_bump (h : Hw t) (hc : t.ctr < 18446744073709551615) : bumpB t = true ∧ Hw (bumpW t) ∧ (bumpW t).ctr = t.ctr + 1 ∧ (bumpW t).n = t.n ∧ (bumpW t).sl = t.sl ∧ (bumpW t).s0 = t.s0 ∧ (bumpW t).s1 = t.s1 := by
 have ht : takeOk t = true := by unfold takeOk; rw [h.lim]; rfl
 have hw : takeW t = t := by unfold takeW; rw [if_neg (by rw [h.lim]; simp)]
 have e : bumpW t = { t with ctr := t.ctr + 1, tr := t.tr ++ [⟨5, 0, 0, []⟩] } := by
  unfold bumpW
  rw [if_neg (by rw [h.lost]; simp), if_neg (by omega), if_pos ht, hw]
 refine ⟨by unfold bumpB; rw [h.lost, ht, decide_eq_true hc]; rfl, ?_, ?_, ?_, ?_, ?_, ?_⟩ <;> rw [e]
 exact ⟨h.lost, h.lim, h.lies⟩
theorem hw_write (h : Hw t) {x : Int × Int} (hx : inR t.n x = true) (hl : (t.sl x).length = 272) {l : List UInt8} (hb : l.length = 272) : writeB t x = true ∧ Hw (writeW t x l) ∧ (writeW t x l).sl = (fun y => if y = x then l else t.sl y) ∧ (writeW t x l).n = t.n ∧ (writeW t x l).s0 = t.s0 ∧ (writeW t x l).s1 = t.s1 ∧ (writeW t x l).ctr = t.ctr := by
 have e : thereW t x = true := (hw_there h x).trans hx
 have hk : layK t 272 = 272 := by unfold layK; rw [if_neg (by rw [h.lim]; simp)]
 have hp : padL (l.take 272) 272 = l := by
  rw [List.take_of_length_le (by omega)]
  unfold padL
  rw [hb]; simp
 have hwr : wroteL t x l = l := by
  unfold wroteL laid
  rw [hp, hk, List.take_of_length_le (by omega), List.drop_of_length_le (by omega), List.append_nil]
 have e2 : writeW t x l = { t with tr := t.tr ++ [⟨2, x.1, x.2, l⟩], sl := fun y => if y = x then l else t.sl y } := by
  unfold writeW
  rw [if_pos e, hwr]
  unfold layW
  rw [if_neg (by show ¬ t.lim = true; rw [h.lim]; simp)]
 refine ⟨by unfold writeB; rw [e, hk]; rfl, ?_, ?_, ?_, ?_, ?_, ?_⟩ <;> rw [e2]
 exact ⟨h.lost, h.lim, h.lies⟩
theorem hw_seal (h : Hw t) {i : Int} (hi : i = 0 ∨ i = 1) (l : List UInt8) : sealB t i l = true ∧ Hw (sealedW t i l) ∧ (sealedW t i l).n = t.n ∧ (sealedW t i l).sl = t.sl ∧ (sealedW t i l).ctr = t.ctr ∧ sealL (sealedW t i l) i = l ∧ sealL (sealedW t i l) (1 - i) = sealL t (1 - i) := by
 have e : sealW t i = true := by unfold sealW; rw [h.lost]; rcases hi with rfl | rfl <;> rfl
 have hk : layK t l.length = l.length := by unfold layK; rw [if_neg (by rw [h.lim]; simp)]
 have hn : ∀ o, sealNew t l o = l := fun o => by
  unfold sealNew
  rw [hk, if_pos rfl]
  unfold laid
  rw [List.take_of_length_le (Nat.le_refl _), List.take_append_of_le_length (Nat.le_refl _), List.take_of_length_le (Nat.le_refl _)]
 have hy : ∀ n (x : Tr), layW { t with tr := t.tr ++ [x] } n = { t with tr := t.tr ++ [x] } := fun n x => by
  unfold layW
  rw [if_neg (by show ¬ t.lim = true; rw [h.lim]; simp)]
 refine ⟨by unfold sealB; rw [e, hk]; simp, ?_⟩
 unfold sealedW
 rw [if_pos e, hn, hn, hy]
 rcases hi with rfl | rfl
 ·rw [if_pos rfl]
  exact ⟨⟨h.lost, h.lim, h.lies⟩, rfl, rfl, rfl, rfl, rfl⟩
 ·rw [if_neg (by decide)]
  exact ⟨⟨h.lost, h.lim, h.lies⟩, rfl, rfl, rfl, rfl, rfl⟩
theorem SameW.trans {t t' t2 : Wd} (h : SameW t t') (h2 : SameW t' t2) : SameW t t2 := ⟨h2.n.trans h.n, h2.sl.trans h.sl, h2.s0.trans h.s0, h2.s1.trans h.s1, h2.ctr.trans h.ctr⟩
end Go.Proofs.YtcehkafddlfleaaGreatDoor

namespace Go.Proofs.YtcehkafddlfleaaGreatDoor
open Go.RowKit
theorem flat9_len : ∀ (S : List (List UInt8)), (∀ d ∈ S, d.length = 32) → (cells8 S.flatten).length = S.length * 32
 | [], _ => rfl
 | d :: S, h => by
  have h1 := flat9_len S (fun x hx => h x (by simp [hx]))
  have h2 := h d (by simp)
  rw [List.flatten_cons, cells8_append, List.length_append, cells8_length, h1, h2, List.length_cons]; omega
theorem flat9_at : ∀ (S : List (List UInt8)), (∀ d ∈ S, d.length = 32) → ∀ (j : Nat) (hj : j < S.length), ((cells8 S.flatten).drop (j * 32)).take 32 = cells8 S[j]
 | d :: S, hS, 0, hj => by
  have h2 := hS d (by simp)
  rw [Nat.zero_mul, List.drop_zero, List.flatten_cons, cells8_append, List.take_append_of_le_length (by rw [cells8_length]; omega), List.take_of_length_le (by rw [cells8_length]; omega)]
  rfl
 | d :: S, hS, j + 1, hj => by
  have h2 := hS d (by simp)
  rw [List.flatten_cons, cells8_append, List.drop_append, List.drop_of_length_le (by rw [cells8_length]; omega), List.nil_append, cells8_length, h2, show (j + 1) * 32 - 32 = j * 32 by omega]
  exact flat9_at S (fun x hx => hS x (by simp [hx])) j (by simpa using hj)
theorem flat9_set : ∀ (S : List (List UInt8)), (∀ d ∈ S, d.length = 32) → ∀ j : Nat, j < S.length → ∀ e : List UInt8, e.length = 32 → (cells8 S.flatten).take (j * 32) ++ cells8 e ++ (cells8 S.flatten).drop (j * 32 + 32) = cells8 (S.set j e).flatten
 | d :: S, hS, 0, hj, e, he => by
  have h2 := hS d (by simp)
  rw [Nat.zero_mul, List.take_zero, List.nil_append, List.flatten_cons, cells8_append, Nat.zero_add, List.drop_append, List.drop_of_length_le (by rw [cells8_length]; omega), List.nil_append, cells8_length, h2, Nat.sub_self, List.drop_zero, List.set_cons_zero, List.flatten_cons, cells8_append]
 | d :: S, hS, j + 1, hj, e, he => by
  have h2 := hS d (by simp)
  have h3 := flat9_set S (fun x hx => hS x (by simp [hx])) j (by simpa using hj) e he
  rw [List.flatten_cons, cells8_append, List.take_append, List.take_of_length_le (by rw [cells8_length]; omega), cells8_length, h2, show (j + 1) * 32 - 32 = j * 32 by omega, List.drop_append, List.drop_of_length_le (by rw [cells8_length]; omega), List.nil_append, cells8_length, h2, show (j + 1) * 32 + 32 - 32 = j * 32 + 32 by omega, List.set_cons_succ, List.flatten_cons, cells8_append, ← h3]
  simp only [List.append_assoc]
theorem fullN {w : World} {base size g m : Nat} {e : TypeId} {xs : List Value} (h : w.ownsRow base e size (.slice (some ⟨g, 0, none⟩) m m) m xs) : Blk w g e xs := by
 rcases h.2 with ⟨h', _⟩ | ⟨g', cap, cur, h', hb, hg, hnc, hcm, hcs, htake⟩
 ·simp at h'
 ·simp only [Value.slice.injEq, Option.some.injEq, Addr.mk.injEq, and_true, true_and] at h'
  obtain ⟨rfl, rfl⟩ := h'
  have e1 : cur.toList = xs := by
   rw [← htake, List.take_of_length_le]
   simp [hcs]
  rw [← e1]
  exact ⟨by simpa using hg⟩
theorem made_zero (n : Nat) : (madeCells zero32.toArray (n * 32)).toList = cells8 (List.replicate n (List.replicate 32 (0 : UInt8))).flatten := by
 rw [List.flatten_replicate_replicate]
 have e : cells8 (List.replicate (n * 32) (0 : UInt8)) = List.replicate (n * 32) (.int .u8 0) := by simp [cells8]
 rw [e]
 refine List.eq_replicate_iff.2 ⟨by simp [madeCells], fun v hv => ?_⟩
 simp only [madeCells, Array.toList_map, Array.toList_range, List.mem_map] at hv
 obtain ⟨i, _, rfl⟩ := hv
 have h : ∀ j, j < 32 → zero32.toArray[j]! = (.int .u8 0 : Value) := by
  intro j hj
  have e2 : ∀ j, j < 32 → (zero32[j]? = some (.int .u8 0)) := fun j hj => by
   show (cells8 (List.replicate 32 0))[j]? = _
   rw [show cells8 (List.replicate 32 (0 : UInt8)) = List.replicate 32 (.int .u8 0) by simp [cells8], List.getElem?_replicate, if_pos hj]
  have h1 := e2 j hj
  rw [getElem!_def]
  simp [h1]
 exact h _ (Nat.mod_lt _ (by decide))
def fmtW (hk : List UInt8) (E : Nat) (t : Wd) : Nat → Wd
 | 0 => t
 | i + 1 => writeW (fmtW hk E t i) ((i : Int), 0) (hideL hk E i [])
def sumF (hk ks : List UInt8) (E P : Nat) : Nat → List (List UInt8)
 | 0 => List.replicate P (List.replicate 32 0)
 | i + 1 => (sumF hk ks E P i).set (i / 16) (addL ((sumF hk ks E P i).getD (i / 16) []) (ofL ks (i : Int) (hideL hk E i [])))
theorem sumF_len (hk ks : List UInt8) (E P : Nat) : ∀ i, (sumF hk ks E P i).length = P
 | 0 => by simp [sumF]
 | i + 1 => by simp [sumF, sumF_len hk ks E P i]
theorem sumF_wide (hk ks : List UInt8) (E P : Nat) : ∀ i, ∀ d ∈ sumF hk ks E P i, d.length = 32
 | 0, d, hd => by rw [sumF] at hd; rw [List.eq_of_mem_replicate hd]; simp
 | i + 1, d, hd => by
  rw [sumF] at hd
  rcases List.mem_or_eq_of_mem_set hd with h | h
  ·exact sumF_wide hk ks E P i d h
  ·rw [h, addL_length]
theorem fmt_hon {t : Wd} (h : Hw t) (hsl : ∀ x, inR t.n x = true → (t.sl x).length = 272) (hk : List UInt8) (E : Nat) : ∀ i, i ≤ t.n → Hw (fmtW hk E t i) ∧ (fmtW hk E t i).n = t.n ∧ (fmtW hk E t i).s0 = t.s0 ∧ (fmtW hk E t i).s1 = t.s1 ∧ (fmtW hk E t i).ctr = t.ctr ∧ (fmtW hk E t i).sl = (fun y => if y.2 = 0 ∧ 0 ≤ y.1 ∧ y.1 < (i : Int) then hideL hk E y.1.toNat [] else t.sl y)
 | 0, _ => ⟨h, rfl, rfl, rfl, rfl, by
  funext y
  have : ¬ (y.2 = 0 ∧ 0 ≤ y.1 ∧ y.1 < ((0 : Nat) : Int)) := by omega
  rw [if_neg this]; rfl⟩
 | i + 1, hi => by
  obtain ⟨h1, h2, h3, h4, h5, h6⟩ := fmt_hon h hsl hk E i (by omega)
  have hin : inR (fmtW hk E t i).n ((i : Int), 0) = true := by
   rw [h2]; unfold inR
   simp only [Bool.and_eq_true, decide_eq_true_eq]; omega
  have hl : ((fmtW hk E t i).sl ((i : Int), 0)).length = 272 := by
   rw [h6]
   simp only
   split
   ·exact hideL_length _ _ _ _
   ·exact hsl _ (by rw [← h2]; exact hin)
  obtain ⟨_, g1, g2, g3, g4, g5, g6⟩ := hw_write h1 hin hl (hideL_length hk E i [])
  refine ⟨g1, g3.trans h2, g4.trans h3, g5.trans h4, g6.trans h5, ?_⟩
  show (writeW _ _ _).sl = _
  rw [g2, h6]
  funext y
  by_cases e : y = ((i : Int), 0)
  ·subst e
   rw [if_pos rfl, if_pos ⟨rfl, by omega, by omega⟩]
   rfl
  ·rw [if_neg e]
   show (if y.2 = 0 ∧ 0 ≤ y.1 ∧ y.1 < (i : Int) then hideL hk E y.1.toNat [] else t.sl y) = _
   by_cases e2 : y.2 = 0 ∧ 0 ≤ y.1 ∧ y.1 < (i : Int)
   ·rw [if_pos e2, if_pos ⟨e2.1, e2.2.1, by omega⟩]
   ·rw [if_neg e2, if_neg (fun h9 => e2 ⟨h9.1, h9.2.1, by
     have : ¬ y.1 = (i : Int) := fun h8 => e (Prod.ext h8 h9.1)
     omega⟩)]
theorem fmt_can {t : Wd} (h : Hw t) (hsl : ∀ x, inR t.n x = true → (t.sl x).length = 272) (hk : List UInt8) (E : Nat) (i : Nat) (hi : i < t.n) : writeB (fmtW hk E t i) ((i : Int), 0) = true := by
 obtain ⟨h1, h2, h3, h4, h5, h6⟩ := fmt_hon h hsl hk E i (by omega)
 have hin : inR (fmtW hk E t i).n ((i : Int), 0) = true := by
  rw [h2]; unfold inR
  simp only [Bool.and_eq_true, decide_eq_true_eq]; omega
 refine (hw_write h1 hin ?_ (hideL_length hk E i [])).1
 rw [h6]
 simp only
 split
 ·exact hideL_length _ _ _ _
 ·exact hsl _ (by rw [← h2]; exact hin)
end Go.Proofs.YtcehkafddlfleaaGreatDoor
