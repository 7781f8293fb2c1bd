/- 
    -/
import Derived.Test.YtcehkafddlfleaaGreatDoorG02
import Derived.Test.YtcehkafddlfleaaGreatDoorG43
import Derived.Test.YtcehkafddlfleaaGreatDoorG32
import Derived.Test.YtcehkafddlfleaaGreatDoorG25
import Derived.Deep.CutRange
namespace Go.Proofs.YtcehkafddlfleaaGreatDoor
open Go.RowKit
theorem part_built0 (h : Nat → UInt8) : (Tryz.prog).built 184 [(1, .agg (cells8 ((List.range 32).map h)).toArray)] = some (cells8 z32 ++ cells8 ((List.range 32).map h)).toArray := by kernel_rfl
theorem part_built (d : List UInt8) (hd : d.length = 32) : (Tryz.prog).built 184 [(1, .agg (cells8 d).toArray)] = some (cells8 z32 ++ cells8 d).toArray := by
 have h := part_built0 (fun i => d.getD i 0)
 rwa [as_range d 32 hd] at h
section
variable {P : Program} {ops : Array Oper} {o : Oper} {a : Act} {Q : Exit → Act → World → Prop} {w : World} {t : TypeId}
theorem yields_build1 (hw : Region.wanted o (yielded ops a.tmps) = true) (i : Nat) (x : Operand) (ho : o.op = .build t #[(i, x)]) {v : Value} (hx : a.eval x = v) {cs : List Value} (hb : P.built t [(i, v)] = some cs.toArray) : Yields P ops o (.agg cs.toArray) a :=
 .inl ⟨hw, fun w => by
  have hr := run_build (P := P) w t #[(i, v)] cs.toArray (by simpa using hb)
  unfold execOp
  simp only [ho, Sem.run_bind, List.map_toArray, List.map_cons, List.map_nil, hx, hr, Result.andThen_ok, Sem.run_pure]⟩
theorem step_boxM {K : Act → World → Prop} {C : Prop} {cs : List Value} (hgd : o.guard = none) (x : Operand) (hop : o.op = .box t x) (hx : a.eval x = .agg cs.toArray)
  (h : ∀ w', Blk w' w.heap.size t cs → Below w.heap.size w w' → K (a.put o.dst (.pointer (some ⟨w.heap.size, 0, none⟩))) w') :
  if Region.wanted o (yielded ops a.tmps) = true then Oper.wp P o a w K Q else C := by
 have hw : Region.wanted o (yielded ops a.tmps) = true := by simp [Region.wanted, hgd]
 rw [if_pos hw]
 unfold Oper.wp
 have hrun : (Instr.box t (.agg cs.toArray)).run P w = .ok (.pointer (some ⟨w.heap.size, 0, none⟩)) (w.alloc (.cells cs.toArray t)) := by
  simp [Instr.box, newVar, Value.cells]
  rfl
 simp only [execOp, hop, hx, Sem.run_bind, hrun, Result.andThen_ok, Sem.run_pure]
 exact h _ (Blk.new w t cs) ((Below.refl _ _).alloc (Nat.le_refl _) _)
end
section
variable {s : Sto} {nw : List Value} {q lim : Int} {gm : Nat} {po : Bool} {g : Nat} {w : World}
theorem mm_22 (h : s.hk.length = 16) (num : Nat) (blk : Int) (A : Option Addr) (n c : Nat) (D : Option Addr) (m e : Nat) : (mmL s (rcL num blk A n c D m e) nw q lim (some gm) po)[22]? = some (.slice D m e) := by
 unfold mmL
 rw [List.getElem?_append_right (by rw [stL_length s h]; omega), stL_length s h]
 rfl
structure PartN (w w' : World) (gm nm : Nat) (f : Int → Option Value) (i p : Nat) (d : List UInt8) : Prop where
 fresh : w.heap.size ≤ p
 lt : p < w'.heap.size
 blk : Blk w' p 184 (cells8 z32 ++ cells8 d)
 map : MapI w' Tryz.prog 3 kvI okI gm (nm + 1) (fun y => if y = (i : Int) then some (.pointer (some ⟨p, 0, none⟩)) else f y)
 grow : w.grownBy w' (some gm)
set_option maxRecDepth 100000 in
set_option maxHeartbeats 4000000 in
theorem mpart_new (num : Nat) (blk : Int) (A : Option Addr) (n c : Nat) (D : Option Addr) (m e : Nat) (hM : Blk w g 124 (mmL s (rcL num blk A n c D m e) nw q lim (some gm) po)) (hKy : s.hk.length = 16) (hnw : nw.length = 4) {nm : Nat} {f : Int → Option Value} (hI : MapI w Tryz.prog 3 kvI okI gm nm f) (at' i : Nat) (hat : at' ≤ 16000000) (hi : i = at' / 16) (hf : f (i : Int) = none) (su : List (List UInt8)) (hD : Ds w w.heap.size D m e su) (him : i < su.length) (d : List UInt8) (hd : d = su[i]) (hnm : nm ≤ 1000000) :
  Calls Tryz.prog 97 #[.pointer (some ⟨g, 0, none⟩), .int .i64 (at' : Int)] w fun x w' => ∃ p, x = .returned (.pointer (some ⟨p, 0, none⟩)) ∧ PartN w w' gm nm f i p d := by
 have hcn : (rcL num blk A n c D m e).length = 4 := rfl
 have c29 : w.cell? ⟨g, 29, none⟩ = some (.map (some gm)) := by rw [hM.cell? 29]; exact mm_at hKy hcn hnw 2
 have HI : Kp _ := ⟨hI⟩
 have HM : Kp _ := ⟨hM⟩
 have H29 : Kp ((mmL s (rcL num blk A n c D m e) nw q lim (some gm) po)[29]? = some (.map (some gm))) := ⟨mm_at hKy hcn hnw 2⟩
 have H22 : Kp ((mmL s (rcL num blk A n c D m e) nw q lim (some gm) po)[22]? = some (.slice D m e)) := ⟨mm_22 hKy num blk A n c D m e⟩
 have hi9 : i ≤ 1000000 := by omega
 have hdl : d.length = 32 := by rw [hd]; exact hD.wide _ (List.getElem_mem him)
 have HDl : Kp (d.length = 32) := ⟨hdl⟩
 have HCl : Kp ((cells8 d).length = 32) := ⟨by rw [cells8_length]; exact hdl⟩
 have hmI : i < m := by rw [← hD.len]; exact him
 obtain ⟨bD, oD, rfl, hbD, hcD⟩ := hD.cells (by omega)
 have hrg := hcD i him
 rw [← hd] at hrg
 have HRg : Kp (w.drew.rangeAt bD (oD + i * 32) (cells8 d)) := ⟨hrg⟩
 have ht : Int.tdiv (at' : Int) 16 = (i : Int) := by rw [hi]; rfl
 have HF : Kp _ := ⟨hf⟩
 have HO : Kp (okI (i : Int)) := ⟨WalkArith.wf_i64 (by omega)⟩
 have HG : Kp ((f (i : Int)).getD (.pointer none) = .pointer none) := ⟨by rw [hf]; rfl⟩
 have HNm : Kp (nm < maxLen) := ⟨by simp only [maxLen]; omega⟩
 have HSm : Kp ((if (f (i : Int)).isSome = true then nm else nm + 1) = nm + 1) := ⟨by rw [hf]; rfl⟩
 clear hM hKy hnw hI hat hf hi hD hd hcD hrg hdl him
 go_enter Tryz.func97, Tryz.ntmps97
 go_wp2_with ((with_reducible refine wpList_lookI (o := ⟨some 13, _, _, _, _, _⟩) HI.out keyI rfl (.tmp 11) (.tmp 12) rfl Tryz.underlying122 (z := .pointer none) (by kernel_rfl) rfl (i : Int) HO.out rfl ?_); rw [HG.out])
 have hBS : Below w.heap.size w w := Below.refl _ _
 have hgm : gm < w.heap.size := HI.out.lt
 refine wp_region_any (by kernel_rfl) ?_
 change wpAny _ _ _ _ _ _ _ w.drew
 replace HM : Kp _ := ⟨HM.out.drew⟩
 replace hBS := hBS.drew
 generalize w.drew = wS at *
 refine wT 0 15 ?_ rfl ?_
 try simp only [Act.put, sA, sB, sC]
 refine wT 1 16 ?_ rfl ?_
 try simp only [Act.put, sA, sB, sC]
 refine wT 2 17 ?_ rfl ?_
 try simp only [Act.put, sA, sB, sC]
 refine wT 4 19 ?_ rfl ?_
 try simp only [Act.put, sA, sB, sC]
 refine wT 5 20 ?_ rfl ?_
 try simp only [Act.put, sA, sB, sC]
 refine wT 6 21 ?_ rfl ?_
 try simp only [Act.put, sA, sB, sC]
 refine wT 7 22 ?_ rfl ?_
 try simp only [Act.put, sA, sB, sC]
 refine wT 8 23 ?_ rfl ?_
 try simp only [Act.put, sA, sB, sC]
 refine wT 10 25 ?_ rfl ?_
 try simp only [Act.put, sA, sB, sC]
 refine rK [3, 9] ?_
 refine aS 18 24 rfl rfl (fun K hK => ?_) fun K hK => ?_
 ·have c0 := HM.out.cell? 29
  rw [H29.out] at c0
  go_simp
  refine hK _ _ ?_
  clear hK K c0
  try simp only [Act.put, sA, sB, sC]
  refine rK [9] ?_
  refine aR 24 rfl fun K hK => ?_
  have c0 := HM.out.cell? 22
  rw [H22.out] at c0
  go_simp
  refine hK _ _ ?_
  clear hK K c0
  try simp only [Act.put, sA, sB, sC]
  refine wT 11 26 ?_ rfl ?_
  try simp only [Act.put, sA, sB, sC]
  refine rK [12] ?_
  refine aR 27 rfl fun K hK => ?_
  refine step_loadR rwDig rfl (.tmp 26) rfl rfl HRg.out HCl.out ?_
  refine hK _ _ ?_
  clear hK K
  try simp only [Act.put, sA, sB, sC]
  refine wpAny_take (i := 13) (oi := ⟨some 28, _, _, _, _, _⟩) (v := _) rfl (by kernel_rfl) (by kernel_rfl) (by kernel_rfl) (fun _ _ _ h => h) (yields_build1 (by rfl) 1 (.tmp 27) rfl rfl (part_built d HDl.out)) ?_
  try simp only [Act.put, sA, sB, sC]
  refine rK [14] ?_
  refine aR 29 rfl fun K hK => ?_
  refine step_boxM rfl (.tmp 28) rfl rfl ?_
  intro w64 hk hb'
  refine hK _ _ ?_
  clear hK K
  try simp only [Act.put, sA, sB, sC]
  have HP : Kp _ := ⟨hk⟩
  have HPs : Kp (w.heap.size ≤ wS.heap.size) := ⟨hBS.size⟩
  replace HM : Kp _ := ⟨HM.out.below hb' HM.out.lt⟩
  replace hBS := hBS.trans (hb'.mono hBS.size)
  clear hk hb'
  generalize wS.heap.size = p at *
  refine rK [15] ?_
  refine AllReady.cons (o := ⟨none, _, _, _, _, _⟩) rfl (fun K hK => ?_) AllReady.nil
  refine step_storeI (MapI.stay HI.out (hBS.block _ hgm)) keyI rfl (.tmp 18) (.tmp 19) (.tmp 29) rfl Tryz.underlying122 HNm.out rfl (i : Int) HO.out rfl (u := .pointer (some ⟨p, 0, none⟩)) rfl ?_
  intro w65 hM9 ho9
  refine hK _ _ ?_
  clear hK K
  try simp only [Act.put]
  rw [HSm.out] at hM9
  refine wpAny_done (by kernel_rfl) ?_ _
  have hpm : p ≠ gm := by have := HPs.out; omega
  have HP9 : Kp _ := ⟨HP.out.only ho9 hpm⟩
  have HGr : Kp (w.grownBy w65 (some gm)) := ⟨⟨ho9.os.trans hBS.os, ho9.tape.trans hBS.tape, ho9.output.trans hBS.output, by rw [ho9.size]; exact hBS.size, fun k hk hne => (ho9.block k (fun e => hne (by rw [e]))).trans (hBS.block k hk)⟩⟩
  have HI9 : Kp _ := ⟨hM9⟩
  have HMn : Kp _ := ⟨HM.out.only ho9 (fun e => by have h1 := HM.out.heap; obtain ⟨es, ck, h2⟩ := HI.out.heap; rw [e, hBS.block gm hgm, h2] at h1; cases h1)⟩
  have c29' := HMn.out.cell? 29
  rw [H29.out] at c29'
  have HG9 : Kp (((fun y : Int => if y = (i : Int) then some (Value.pointer (some ⟨p, 0, none⟩)) else f y) (i : Int)).getD (.pointer none) = .pointer (some ⟨p, 0, none⟩)) := ⟨by simp⟩
  have HPl := HP9.out.lt
  clear hM9 ho9 HP HM hBS HMn
  go_wp2_with ((with_reducible refine wpList_lookI (o := ⟨some 35, _, _, _, _, _⟩) HI9.out keyI rfl (.tmp 33) (.tmp 34) rfl Tryz.underlying122 (z := .pointer none) (by kernel_rfl) rfl (i : Int) HO.out rfl ?_); rw [HG9.out])
  go_ret
  exact ⟨p, rfl, HPs.out, HPl, HP9.out, HI9.out, HGr.out⟩
 ·have c0 := HM.out.cell? 22
  rw [H22.out] at c0
  go_simp
  refine hK _ _ ?_
  clear hK K c0
  try simp only [Act.put, sA, sB, sC]
  refine wT 11 26 ?_ rfl ?_
  try simp only [Act.put, sA, sB, sC]
  refine rK [3, 12] ?_
  refine aS 18 27 rfl rfl (fun K hK => ?_) fun K hK => ?_
  ·have c0 := HM.out.cell? 29
   rw [H29.out] at c0
   go_simp
   refine hK _ _ ?_
   clear hK K c0
   try simp only [Act.put, sA, sB, sC]
   refine rK [12] ?_
   refine aR 27 rfl fun K hK => ?_
   refine step_loadR rwDig rfl (.tmp 26) rfl rfl HRg.out HCl.out ?_
   refine hK _ _ ?_
   clear hK K
   try simp only [Act.put, sA, sB, sC]
   refine wpAny_take (i := 13) (oi := ⟨some 28, _, _, _, _, _⟩) (v := _) rfl (by kernel_rfl) (by kernel_rfl) (by kernel_rfl) (fun _ _ _ h => h) (yields_build1 (by rfl) 1 (.tmp 27) rfl rfl (part_built d HDl.out)) ?_
   try simp only [Act.put, sA, sB, sC]
   refine rK [14] ?_
   refine aR 29 rfl fun K hK => ?_
   refine step_boxM rfl (.tmp 28) rfl rfl ?_
   intro w69 hk hb'
   refine hK _ _ ?_
   clear hK K
   try simp only [Act.put, sA, sB, sC]
   have HP : Kp _ := ⟨hk⟩
   have HPs : Kp (w.heap.size ≤ wS.heap.size) := ⟨hBS.size⟩
   replace HM : Kp _ := ⟨HM.out.below hb' HM.out.lt⟩
   replace hBS := hBS.trans (hb'.mono hBS.size)
   clear hk hb'
   generalize wS.heap.size = p at *
   refine rK [15] ?_
   refine AllReady.cons (o := ⟨none, _, _, _, _, _⟩) rfl (fun K hK => ?_) AllReady.nil
   refine step_storeI (MapI.stay HI.out (hBS.block _ hgm)) keyI rfl (.tmp 18) (.tmp 19) (.tmp 29) rfl Tryz.underlying122 HNm.out rfl (i : Int) HO.out rfl (u := .pointer (some ⟨p, 0, none⟩)) rfl ?_
   intro w70 hM9 ho9
   refine hK _ _ ?_
   clear hK K
   try simp only [Act.put]
   rw [HSm.out] at hM9
   refine wpAny_done (by kernel_rfl) ?_ _
   have hpm : p ≠ gm := by have := HPs.out; omega
   have HP9 : Kp _ := ⟨HP.out.only ho9 hpm⟩
   have HGr : Kp (w.grownBy w70 (some gm)) := ⟨⟨ho9.os.trans hBS.os, ho9.tape.trans hBS.tape, ho9.output.trans hBS.output, by rw [ho9.size]; exact hBS.size, fun k hk hne => (ho9.block k (fun e => hne (by rw [e]))).trans (hBS.block k hk)⟩⟩
   have HI9 : Kp _ := ⟨hM9⟩
   have HMn : Kp _ := ⟨HM.out.only ho9 (fun e => by have h1 := HM.out.heap; obtain ⟨es, ck, h2⟩ := HI.out.heap; rw [e, hBS.block gm hgm, h2] at h1; cases h1)⟩
   have c29' := HMn.out.cell? 29
   rw [H29.out] at c29'
   have HG9 : Kp (((fun y : Int => if y = (i : Int) then some (Value.pointer (some ⟨p, 0, none⟩)) else f y) (i : Int)).getD (.pointer none) = .pointer (some ⟨p, 0, none⟩)) := ⟨by simp⟩
   have HPl := HP9.out.lt
   clear hM9 ho9 HP HM hBS HMn
   go_wp2_with ((with_reducible refine wpList_lookI (o := ⟨some 35, _, _, _, _, _⟩) HI9.out keyI rfl (.tmp 33) (.tmp 34) rfl Tryz.underlying122 (z := .pointer none) (by kernel_rfl) rfl (i : Int) HO.out rfl ?_); rw [HG9.out])
   go_ret
   exact ⟨p, rfl, HPs.out, HPl, HP9.out, HI9.out, HGr.out⟩
  ·refine step_loadR rwDig rfl (.tmp 26) rfl rfl HRg.out HCl.out ?_
   refine hK _ _ ?_
   clear hK K
   try simp only [Act.put, sA, sB, sC]
   refine wpAny_take (i := 13) (oi := ⟨some 28, _, _, _, _, _⟩) (v := _) rfl (by kernel_rfl) (by kernel_rfl) (by kernel_rfl) (fun _ _ _ h => h) (yields_build1 (by rfl) 1 (.tmp 27) rfl rfl (part_built d HDl.out)) ?_
   try simp only [Act.put, sA, sB, sC]
   refine rK [3, 14] ?_
   refine aS 18 29 rfl rfl (fun K hK => ?_) fun K hK => ?_
   ·have c0 := HM.out.cell? 29
    rw [H29.out] at c0
    go_simp
    refine hK _ _ ?_
    clear hK K c0
    try simp only [Act.put, sA, sB, sC]
    refine rK [14] ?_
    refine aR 29 rfl fun K hK => ?_
    refine step_boxM rfl (.tmp 28) rfl rfl ?_
    intro w73 hk hb'
    refine hK _ _ ?_
    clear hK K
    try simp only [Act.put, sA, sB, sC]
    have HP : Kp _ := ⟨hk⟩
    have HPs : Kp (w.heap.size ≤ wS.heap.size) := ⟨hBS.size⟩
    replace HM : Kp _ := ⟨HM.out.below hb' HM.out.lt⟩
    replace hBS := hBS.trans (hb'.mono hBS.size)
    clear hk hb'
    generalize wS.heap.size = p at *
    refine rK [15] ?_
    refine AllReady.cons (o := ⟨none, _, _, _, _, _⟩) rfl (fun K hK => ?_) AllReady.nil
    refine step_storeI (MapI.stay HI.out (hBS.block _ hgm)) keyI rfl (.tmp 18) (.tmp 19) (.tmp 29) rfl Tryz.underlying122 HNm.out rfl (i : Int) HO.out rfl (u := .pointer (some ⟨p, 0, none⟩)) rfl ?_
    intro w74 hM9 ho9
    refine hK _ _ ?_
    clear hK K
    try simp only [Act.put]
    rw [HSm.out] at hM9
    refine wpAny_done (by kernel_rfl) ?_ _
    have hpm : p ≠ gm := by have := HPs.out; omega
    have HP9 : Kp _ := ⟨HP.out.only ho9 hpm⟩
    have HGr : Kp (w.grownBy w74 (some gm)) := ⟨⟨ho9.os.trans hBS.os, ho9.tape.trans hBS.tape, ho9.output.trans hBS.output, by rw [ho9.size]; exact hBS.size, fun k hk hne => (ho9.block k (fun e => hne (by rw [e]))).trans (hBS.block k hk)⟩⟩
    have HI9 : Kp _ := ⟨hM9⟩
    have HMn : Kp _ := ⟨HM.out.only ho9 (fun e => by have h1 := HM.out.heap; obtain ⟨es, ck, h2⟩ := HI.out.heap; rw [e, hBS.block gm hgm, h2] at h1; cases h1)⟩
    have c29' := HMn.out.cell? 29
    rw [H29.out] at c29'
    have HG9 : Kp (((fun y : Int => if y = (i : Int) then some (Value.pointer (some ⟨p, 0, none⟩)) else f y) (i : Int)).getD (.pointer none) = .pointer (some ⟨p, 0, none⟩)) := ⟨by simp⟩
    have HPl := HP9.out.lt
    clear hM9 ho9 HP HM hBS HMn
    go_wp2_with ((with_reducible refine wpList_lookI (o := ⟨some 35, _, _, _, _, _⟩) HI9.out keyI rfl (.tmp 33) (.tmp 34) rfl Tryz.underlying122 (z := .pointer none) (by kernel_rfl) rfl (i : Int) HO.out rfl ?_); rw [HG9.out])
    go_ret
    exact ⟨p, rfl, HPs.out, HPl, HP9.out, HI9.out, HGr.out⟩
   ·refine step_boxM rfl (.tmp 28) rfl rfl ?_
    intro w75 hk hb'
    refine hK _ _ ?_
    clear hK K
    try simp only [Act.put, sA, sB, sC]
    have HP : Kp _ := ⟨hk⟩
    have HPs : Kp (w.heap.size ≤ wS.heap.size) := ⟨hBS.size⟩
    replace HM : Kp _ := ⟨HM.out.below hb' HM.out.lt⟩
    replace hBS := hBS.trans (hb'.mono hBS.size)
    clear hk hb'
    generalize wS.heap.size = p at *
    refine rK [3] ?_
    refine aR 18 rfl fun K hK => ?_
    have c0 := HM.out.cell? 29
    rw [H29.out] at c0
    go_simp
    refine hK _ _ ?_
    clear hK K c0
    try simp only [Act.put, sA, sB, sC]
    refine rK [15] ?_
    refine AllReady.cons (o := ⟨none, _, _, _, _, _⟩) rfl (fun K hK => ?_) AllReady.nil
    refine step_storeI (MapI.stay HI.out (hBS.block _ hgm)) keyI rfl (.tmp 18) (.tmp 19) (.tmp 29) rfl Tryz.underlying122 HNm.out rfl (i : Int) HO.out rfl (u := .pointer (some ⟨p, 0, none⟩)) rfl ?_
    intro w77 hM9 ho9
    refine hK _ _ ?_
    clear hK K
    try simp only [Act.put]
    rw [HSm.out] at hM9
    refine wpAny_done (by kernel_rfl) ?_ _
    have hpm : p ≠ gm := by have := HPs.out; omega
    have HP9 : Kp _ := ⟨HP.out.only ho9 hpm⟩
    have HGr : Kp (w.grownBy w77 (some gm)) := ⟨⟨ho9.os.trans hBS.os, ho9.tape.trans hBS.tape, ho9.output.trans hBS.output, by rw [ho9.size]; exact hBS.size, fun k hk hne => (ho9.block k (fun e => hne (by rw [e]))).trans (hBS.block k hk)⟩⟩
    have HI9 : Kp _ := ⟨hM9⟩
    have HMn : Kp _ := ⟨HM.out.only ho9 (fun e => by have h1 := HM.out.heap; obtain ⟨es, ck, h2⟩ := HI.out.heap; rw [e, hBS.block gm hgm, h2] at h1; cases h1)⟩
    have c29' := HMn.out.cell? 29
    rw [H29.out] at c29'
    have HG9 : Kp (((fun y : Int => if y = (i : Int) then some (Value.pointer (some ⟨p, 0, none⟩)) else f y) (i : Int)).getD (.pointer none) = .pointer (some ⟨p, 0, none⟩)) := ⟨by simp⟩
    have HPl := HP9.out.lt
    clear hM9 ho9 HP HM hBS HMn
    go_wp2_with ((with_reducible refine wpList_lookI (o := ⟨some 35, _, _, _, _, _⟩) HI9.out keyI rfl (.tmp 33) (.tmp 34) rfl Tryz.underlying122 (z := .pointer none) (by kernel_rfl) rfl (i : Int) HO.out rfl ?_); rw [HG9.out])
    go_ret
    exact ⟨p, rfl, HPs.out, HPl, HP9.out, HI9.out, HGr.out⟩
end
end Go.Proofs.YtcehkafddlfleaaGreatDoor

namespace Go.Proofs.YtcehkafddlfleaaGreatDoor
open Go.RowKit
structure Hld (hs : List Held) (A : Option Addr) (n c : Nat) (D : Option Addr) (m e : Nat) (r : Rc) : Prop where
 num : r.num < 18446744073709551616
 blk : -9223372036854775808 ≤ r.blk ∧ r.blk < 9223372036854775808
 sl : (A, n, c, r.sl) ∈ hs
 su : (D, 32 * m, (if D = none then 0 else 32 * m), r.su.flatten) ∈ hs
 len : r.su.length = m
 cap : m ≤ e
 max : e ≤ maxLen
 nil : D = none → e = 0
 wide : ∀ d ∈ r.su, d.length = 32
 sm : m ≤ 1000000
structure Pt where
 p : Nat
 rd : List UInt8
 wr : List UInt8
def mpF (F : Nat → Option Pt) : Int → Option Value := fun y => if 0 ≤ y then (F y.toNat).map (fun x => .pointer (some ⟨x.p, 0, none⟩)) else none
theorem mpF_at (F : Nat → Option Pt) (i : Nat) : mpF F (i : Int) = (F i).map (fun x => .pointer (some ⟨x.p, 0, none⟩)) := by
 unfold mpF
 rw [if_pos (by omega), Int.toNat_natCast]
section
variable {w0 w w' : World} {k k' b : Nat} {t t' : Wd} {Om Ox : Nat → Prop} {hs hs' : List Held} {A D : Option Addr} {n c m e : Nat} {r : Rc}
theorem Hld.rs (H : Hld hs A n c D m e r) (h : StM w0 w k b t Om hs) : Rs w w.heap.size A n c D m e r :=
 ⟨H.num, H.blk, (h.held H.sl).1, H.len, H.cap, H.max, H.nil, H.wide, fun h0 => by
  obtain ⟨b, o, hA, hlt, hc⟩ := (h.held H.su).1.cells (by omega)
  refine ⟨b, o, hA, hlt, fun i hi j v hv => ?_⟩
  have hw := H.wide r.su[i] (List.getElem_mem hi)
  have hj : j < 32 := by have := (List.getElem?_eq_some_iff.1 hv).1; rw [cells8_length] at this; omega
  have hl : r.su.flatten.length = r.su.length * 32 := by have h1 := flat9_len r.su H.wide; rwa [cells8_length] at h1
  have hij : i * 32 + j < r.su.flatten.length := by rw [hl]; omega
  have h1 := hc (i * 32 + j) hij
  have h2 := flat9_at r.su H.wide i hi
  rw [← h2, List.getElem?_take, if_pos hj, List.getElem?_drop, cells8_at _ _ hij] at hv
  rw [Nat.add_assoc, h1]
  exact hv⟩
theorem Hld.mono (H : Hld hs A n c D m e r) (hsub : ∀ x ∈ hs, x ∈ hs') : Hld hs' A n c D m e r := ⟨H.num, H.blk, hsub _ H.sl, hsub _ H.su, H.len, H.cap, H.max, H.nil, H.wide, H.sm⟩
theorem Hld.of_rs (h : Rs w w.heap.size A n c D m e r) (hsl : (A, n, c, r.sl) ∈ hs) (hsu : (D, 32 * m, (if D = none then 0 else 32 * m), r.su.flatten) ∈ hs) (hm : m ≤ 1000000) : Hld hs A n c D m e r :=
 ⟨h.num, h.blk, hsl, hsu, h.su.len, h.su.cap, h.su.max, h.su.nil, h.su.wide, hm⟩
theorem Hld.n_le (H : Hld hs A n c D m e r) (h : StM w0 w k b t Om hs) : n ≤ 4294967296 := (h.held H.sl).2
theorem StM.grownOwn {g p : Nat} (h : StM w0 w k b t Om hs) (hg : w.grownBy w' (some g)) (hm : Om g) (hp : w.heap.size ≤ p ∧ p < w'.heap.size) : StM w0 w' k b t (fun j => Om j ∨ j = p) hs := by
 obtain ⟨M, O, ad, q, L, hP, h1, h2, hh⟩ := h.is
 have C : Chg (fun j => j = g) w w' := Chg.of_grown hg (fun j e => (Option.some.inj e).symm)
 have hM : ∀ j, (fun j => M j ∨ j = p) j → M j ∨ w.heap.size ≤ j := fun j hj => hj.imp id (fun e => by rw [e]; exact hp.1)
 refine ⟨⟨fun j => M j ∨ j = p, O, ad, q, L, hP.chg C (fun j e ho => (h1 g hm).2 (e ▸ ho)) (fun j e => e ▸ (h1 g hm).1) hM (fun _ h => .inl h) (fun j hj => ?_), fun j hj => ?_, fun j hj => ?_, fun x hx => (hh x hx).chg C (fun j e => e ▸ (h1 g hm).1) hM⟩, h.below.trans (C.below (fun j e => e ▸ h2 g (h1 g hm).1) h.below.size), h.small⟩
 ·rcases hj with h9 | h9
  ·exact Nat.lt_of_lt_of_le (hP.lt j h9) hg.size
  ·rw [h9]; exact hp.2
 ·rcases hj with h9 | h9
  ·exact ⟨.inl (h1 j h9).1, (h1 j h9).2⟩
  ·exact ⟨.inr h9, fun ho => by have := hP.lt j (hP.sub j ho); omega⟩
 ·rcases hj with h9 | h9
  ·exact h2 j h9
  ·have := h.below.size; omega
structure MemW (w0 w : World) (k : Nat) (t : Wd) (Om Ox : Nat → Prop) (hs : List Held) (g gm nm : Nat) (s : Sto) (ks : List UInt8) (rc rn : Rc) (q lim : Int) (po : Bool) (F : Nat → Option Pt) : Prop where
 st : StM w0 w k s.b t Om hs
 mine : Om g ∧ Om gm ∧ g ≠ gm
 oth : ∀ j, Ox j → Om j ∧ j ≠ g ∧ j ≠ gm ∧ ∀ i x, F i = some x → x.p ≠ j
 key : s.hk.length = 16
 sum : (s.SA, 32, s.sc, ks) ∈ hs
 mem : ∃ A n c D m e A2 n2 c2 D2 m2 e2, Blk w g 124 (mmL s (rcL rc.num rc.blk A n c D m e) (rcL rn.num rn.blk A2 n2 c2 D2 m2 e2) q lim (some gm) po) ∧ Hld hs A n c D m e rc ∧ Hld hs A2 n2 c2 D2 m2 e2 rn
 map : MapI w Tryz.prog 3 kvI okI gm nm (mpF F)
 pts : ∀ i x, F i = some x → Om x.p ∧ x.p ≠ g ∧ x.p ≠ gm ∧ Blk w x.p 184 (cells8 x.rd ++ cells8 x.wr) ∧ x.rd.length = 32 ∧ x.wr.length = 32
 inj : ∀ i j x y, F i = some x → F j = some y → x.p = y.p → i = j
 small : nm ≤ 100000
variable {g gm nm : Nat} {s : Sto} {ks : List UInt8} {rc rn rc' rn' : Rc} {q lim q' lim' : Int} {po po' : Bool} {F : Nat → Option Pt}
theorem MemW.keep (h : MemW w0 w k t Om Ox hs g gm nm s ks rc rn q lim po F) (h2 : StM w0 w' k' s.b t' Om hs') (hk : Keep Om w w') (hsub : ∀ x ∈ hs, x ∈ hs') : MemW w0 w' k' t' Om Ox hs' g gm nm s ks rc rn q lim po F := by
 obtain ⟨A, n, c, D, m, e, A2, n2, c2, D2, m2, e2, hb, h3, h4⟩ := h.mem
 exact ⟨h2, h.mine, h.oth, h.key, hsub _ h.sum, ⟨A, n, c, D, m, e, A2, n2, c2, D2, m2, e2, hk.blk hb h.mine.1, h3.mono hsub, h4.mono hsub⟩, h.map.stay (hk.block _ h.mine.2.1), fun i x hx => by
  obtain ⟨a1, a2, a3, a4, a5⟩ := h.pts i x hx
  exact ⟨a1, a2, a3, hk.blk a4 a1, a5⟩, h.inj, h.small⟩
theorem MemW.grow (h : MemW w0 w k t Om Ox hs g gm nm s ks rc rn q lim po F) (hb : Below w.heap.size w w') : MemW w0 w' k t Om Ox hs g gm nm s ks rc rn q lim po F := h.keep (h.st.grow hb) (h.st.keepBelow hb) (fun _ hx => hx)
theorem MemW.drew (h : MemW w0 w k t Om Ox hs g gm nm s ks rc rn q lim po F) : MemW w0 w.drew k t Om Ox hs g gm nm s ks rc rn q lim po F := h.grow (Below.refl _ _).drew
theorem MemW.turn (h : MemW w0 w k t Om Ox hs g gm nm s ks rc rn q lim po F) (ho : Only g w w') {A D A2 D2 : Option Addr} {n c m e n2 c2 m2 e2 : Nat} (hb : Blk w' g 124 (mmL s (rcL rc'.num rc'.blk A n c D m e) (rcL rn'.num rn'.blk A2 n2 c2 D2 m2 e2) q' lim' (some gm) po')) (h3 : Hld hs A n c D m e rc') (h4 : Hld hs A2 n2 c2 D2 m2 e2 rn') :
  MemW w0 w' k t Om Ox hs g gm nm s ks rc' rn' q' lim' po' F ∧ Keep Ox w w' :=
 ⟨⟨h.st.only ho h.mine.1, h.mine, h.oth, h.key, h.sum, ⟨A, n, c, D, m, e, A2, n2, c2, D2, m2, e2, hb, h3, h4⟩, h.map.stay (ho.block _ (fun e => h.mine.2.2 e.symm)), fun i x hx => by
  obtain ⟨a1, a2, a3, a4, a5⟩ := h.pts i x hx
  exact ⟨a1, a2, a3, a4.only ho a2, a5⟩, h.inj, h.small⟩, Keep.only ho (fun h9 => (h.oth g h9).2.1 rfl)⟩
theorem MemW.fold (h : MemW w0 w k t Om Ox hs g gm nm s ks rc rn q lim po F) {i : Nat} {x : Pt} (hF : F i = some x) (h2 : StM w0 w' k s.b t Om hs) (hk : Keep (fun j => Om j ∧ j ≠ x.p) w w') {rd wr : List UInt8} (hb : Blk w' x.p 184 (cells8 rd ++ cells8 wr)) (hr : rd.length = 32) (hw : wr.length = 32) :
  MemW w0 w' k t Om Ox hs g gm nm s ks rc rn q lim po (fun j => if j = i then some ⟨x.p, rd, wr⟩ else F j) ∧ Keep Ox w w' := by
 obtain ⟨a1, a2, a3, a4, a5⟩ := h.pts i x hF
 obtain ⟨A, n, c, D, m, e, A2, n2, c2, D2, m2, e2, hb0, h3, h4⟩ := h.mem
 have hp : ∀ j y, (if j = i then some (⟨x.p, rd, wr⟩ : Pt) else F j) = some y → ∃ z, F j = some z ∧ z.p = y.p := fun j y hy => by
  split at hy
  ·next e => cases hy; exact ⟨x, by rw [e]; exact hF, rfl⟩
  ·exact ⟨y, hy, rfl⟩
 have hm : mpF (fun j => if j = i then some ⟨x.p, rd, wr⟩ else F j) = mpF F := by
  funext y
  unfold mpF
  by_cases h0 : 0 ≤ y
  ·rw [if_pos h0, if_pos h0]
   by_cases e : y.toNat = i
   ·simp only [e, if_true, hF]; rfl
   ·simp only [e, if_false]
  ·rw [if_neg h0, if_neg h0]
 refine ⟨⟨h2, h.mine, fun j hj => ?_, h.key, h.sum, ⟨A, n, c, D, m, e, A2, n2, c2, D2, m2, e2, hk.blk hb0 ⟨h.mine.1, fun e => a2 e.symm⟩, h3, h4⟩, ?_, fun j y hy => ?_, fun j l y z hy hz e => ?_, h.small⟩, hk.less fun j hj => ⟨(h.oth j hj).1, fun e => (h.oth j hj).2.2.2 i x hF e.symm⟩⟩
 ·obtain ⟨b1, b2, b3, b4⟩ := h.oth j hj
  refine ⟨b1, b2, b3, fun l y hy => ?_⟩
  obtain ⟨z, hz, ez⟩ := hp l y hy
  rw [← ez]; exact b4 l z hz
 ·rw [hm]; exact h.map.stay (hk.block _ ⟨h.mine.2.1, fun e => a3 e.symm⟩)
 ·split at hy
  ·cases hy; exact ⟨a1, a2, a3, hb, hr, hw⟩
  ·next hne =>
   obtain ⟨c1, c2, c3, c4, c5⟩ := h.pts j y hy
   exact ⟨c1, c2, c3, hk.blk c4 ⟨c1, fun e => hne (h.inj j i y x hy hF e)⟩, c5⟩
 ·obtain ⟨y1, hy1, ey⟩ := hp j y hy
  obtain ⟨z1, hz1, ez⟩ := hp l z hz
  exact h.inj j l y1 z1 hy1 hz1 (by rw [ey, ez, e])
theorem MemW.made (h : MemW w0 w k t Om Ox hs g gm nm s ks rc rn q lim po F) {i p : Nat} {d : List UInt8} (_hF : F i = none) (hP : PartN w w' gm nm (mpF F) i p d) (hd : d.length = 32) (hn : nm + 1 ≤ 100000) :
  MemW w0 w' k t (fun j => Om j ∨ j = p) Ox hs g gm (nm + 1) s ks rc rn q lim po (fun j => if j = i then some ⟨p, z32, d⟩ else F j) ∧ Keep Ox w w' := by
 obtain ⟨A, n, c, D, m, e, A2, n2, c2, D2, m2, e2, hb0, h3, h4⟩ := h.mem
 have hfr := hP.fresh
 have hne : ∀ j, Om j → j ≠ p := fun j hj e => by have := (h.st.lt hj).2; omega
 have hk : ∀ j, Om j → j ≠ gm → w'.heap[j]? = w.heap[j]? := fun j hj e => hP.grow.block j (h.st.lt hj).2 (fun e2 => e (Option.some.inj e2))
 have hm : mpF (fun j => if j = i then some ⟨p, z32, d⟩ else F j) = fun y => if y = (i : Int) then some (.pointer (some ⟨p, 0, none⟩)) else mpF F y := by
  funext y
  unfold mpF
  by_cases e : y = (i : Int)
  ·subst e
   rw [if_pos (by omega), Int.toNat_natCast, if_pos rfl]; simp only [if_true]; rfl
  ·rw [if_neg e]
   by_cases h0 : 0 ≤ y
   ·have e2 : ¬ y.toNat = i := by omega
    rw [if_pos h0, if_pos h0]; simp only [e2, if_false]
   ·rw [if_neg h0, if_neg h0]
 have hg9 : g ≠ gm := h.mine.2.2
 have hpt : ∀ j y, (if j = i then some (⟨p, z32, d⟩ : Pt) else F j) = some y → (j = i ∧ y = ⟨p, z32, d⟩) ∨ F j = some y := fun j y hy => by
  split at hy
  ·next e => cases hy; exact .inl ⟨e, rfl⟩
  ·exact .inr hy
 refine ⟨⟨h.st.grownOwn hP.grow h.mine.2.1 ⟨hfr, hP.lt⟩, ⟨.inl h.mine.1, .inl h.mine.2.1, hg9⟩, fun j hj => ?_, h.key, h.sum, ⟨A, n, c, D, m, e, A2, n2, c2, D2, m2, e2, ⟨(hk g h.mine.1 hg9).trans hb0.heap⟩, h3, h4⟩, ?_, fun j y hy => ?_, fun j l y z hy hz e => ?_, hn⟩, ⟨hP.grow.size, fun j hj => hk j (h.oth j hj).1 (h.oth j hj).2.2.1⟩⟩
 ·obtain ⟨b1, b2, b3, b4⟩ := h.oth j hj
  refine ⟨.inl b1, b2, b3, fun l y hy => ?_⟩
  rcases hpt l y hy with ⟨_, rfl⟩ | h9
  ·exact fun e => hne j b1 e.symm
  ·exact b4 l y h9
 ·rw [hm]; exact hP.map
 ·rcases hpt j y hy with ⟨_, rfl⟩ | h9
  ·exact ⟨.inr rfl, fun e => hne g h.mine.1 e.symm, fun e => hne gm h.mine.2.1 e.symm, hP.blk, by simp [z32], hd⟩
  ·obtain ⟨c1, c2, c3, c4, c5⟩ := h.pts j y h9
   exact ⟨.inl c1, c2, c3, ⟨(hk _ c1 c3).trans c4.heap⟩, c5⟩
 ·rcases hpt j y hy with ⟨e1, rfl⟩ | h8
  ·rcases hpt l z hz with ⟨e2, rfl⟩ | h9
   ·rw [e1, e2]
   ·exact absurd e.symm (hne _ (h.pts l z h9).1)
  ·rcases hpt l z hz with ⟨e2, rfl⟩ | h9
   ·exact absurd e (hne _ (h.pts j y h8).1)
   ·exact h.inj j l y z h8 h9 e
end
end Go.Proofs.YtcehkafddlfleaaGreatDoor
