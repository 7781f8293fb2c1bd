/- The contract of audit's Straight. -/
import Derived.Test.YthpfiieaanioeaaG12
import Derived.Test.YthpfiieaanioeaaG13
import Derived.Test.YthpfiieaanioeaaG02
import Derived.Test.YthpfiieaanioeaaG04
import Derived.Deep.LoopGhost
import Derived.DeepKeys4
namespace Go.Proofs.Ythpfiieaanioeaa
open Go.RowKit

def okQ (x : Int × Int) : Prop := (Lit.int .i64 x.1).wf = true ∧ (Lit.int .i64 x.2).wf = true
def kvQ (x : Int × Int) : Value := .agg #[.int .i64 x.1, .int .i64 x.2]
theorem keyQ : KeyT Try.prog 50 kvQ okQ := by
  refine ⟨Maps.Keyed.of_law (deep_law_laid (m := 5) (by kernel_rfl) (by decide) (of_decide_eq_true (by kernel_rfl)) (by kernel_rfl) (by kernel_rfl)), fun x hx => ?_, fun x y h => ?_⟩
  · obtain ⟨h1, h2⟩ := hx
    have e1 : (Try.prog).keyType 50 = true := by kernel_rfl
    have e2 : (Try.prog).cellsOf 50 = 2 := by kernel_rfl
    have e5 : decide ((Try.prog).types.size = 0) = false := by kernel_rfl
    have e3 : ∃ m, (Try.prog).types.size = m + 1 := ⟨(Try.prog).types.size - 1, by have := of_decide_eq_false e5; omega⟩
    have e4 : (Try.prog).cellsOf 3 = 1 := by kernel_rfl
    obtain ⟨m, hm⟩ := e3
    refine ⟨.string (keyBytes [.int .i64 x.1, .int .i64 x.2]), ?_⟩
    unfold keyOf kvQ
    simp only [Try.underlying50]
    rw [if_pos (by simp [e1, Value.formed, Try.underlying50, e2]), hm]
    unfold Program.keyLits
    simp only [Try.underlying50, Value.cells]
    rw [if_pos ⟨by rw [e2]; rfl, by simp⟩]
    simp [e4, Program.keyLits, Try.underlying3, h1, h2]
  · simp only [kvQ, Value.agg.injEq, Array.mk.injEq, List.cons.injEq, Value.int.injEq] at h
    exact Prod.ext h.1.2 h.2.1.2
def zeroQ : List Value := [.int .i64 0, .int .i64 0]
theorem tyQ : Ty Try.prog 50 zeroQ := ⟨by kernel_rfl⟩
theorem rwQ : Rw Try.prog 50 (match (Try.prog).underlying 50 with | some d => d | none => .bool) 2 := ⟨by kernel_rfl, by kernel_rfl, by kernel_rfl⟩
/-- where the thing j lies -/
def pvA (A : Option Addr) (j : Nat) : Value := match A with | some ad => .pointer (some ⟨ad.block, ad.off + j * 4, none⟩) | none => .pointer none
def mapQ (A : Option Addr) (ts : List Tq) (i : Nat) (x : Int × Int) : Option Value := (lastW ts i x).map (pvA A)
theorem kept_of (A : Option Addr) (n c : Nat) (ts : List Tq) (o : Option Nat) (w : World) (hT : Trs w w.heap.size A n c ts) (ho : ∀ j, o = some j → j < n) :
    Calls Try.prog 27 #[(o.map (pvA A)).getD (.pointer none)] w fun e w' => ∃ A c, e = .returned (.slice A 272 c) ∧ Bs w' w'.heap.size A 272 c (keptL ts o) ∧ Below w.heap.size w w' := by
  cases o with
  | none => exact kept_none w
  | some j =>
    have hj := ho j rfl
    obtain ⟨b, o, A', n', c', rfl, _, h⟩ := hT.at hj
    have e : keptL ts (some j) = slotL (ts[j]'(by have := hT.len; omega)).bs := by
      unfold keptL
      simp only [List.getElem?_eq_getElem (show j < ts.length by have := hT.len; omega)]
    rw [e]
    exact kept_any b (o + j * 4) A' n' c' _ w h.sli h.bytes
theorem mapQ_next (A : Option Addr) (ts : List Tq) (i : Nat) (h : i < ts.length) (hk : ts[i].kind = 2) (x : Int × Int) (hx : x = (ts[i].pl, ts[i].sl)) : (fun y => if y = x then some (pvA A i) else mapQ A ts i y) = mapQ A ts (i + 1) := by
  funext y
  unfold mapQ
  rw [lastW_next ts i h]
  by_cases hy : y = x
  · subst hy hx; rw [if_pos rfl, if_pos ⟨hk, rfl⟩]; rfl
  · rw [if_neg hy, if_neg (fun e => hy (by rw [hx]; exact e.2.symm))]
theorem mapQ_same (A : Option Addr) (ts : List Tq) (i : Nat) (h : i < ts.length) (hk : ts[i].kind ≠ 2) : mapQ A ts (i + 1) = mapQ A ts i := by
  funext y
  unfold mapQ
  rw [lastW_next ts i h, if_neg (fun e => hk e.1)]
theorem wpList_make0 {P : Program} {w : World} {ops : Array Oper} {rest : List Oper} {o : Oper} {a : Act} {Q : Exit → Act → World → Prop} {t k : TypeId} {κ : Type} (hg : o.guard = none) (hop : o.op = .makeMap t none) (kv : κ → Value) (ok : κ → Prop)
    (hK : MapI (w.alloc (.map #[] 0)) P k kv ok w.heap.size 0 (fun _ => none) → Below w.heap.size w (w.alloc (.map #[] 0)) → wpList P ops Q rest (a.put o.dst (.map (some w.heap.size))) (w.alloc (.map #[] 0))) : wpList P ops Q (o :: rest) a w := by
  refine wpList_plain hg fun K' hK' => ?_
  have hrun : (Instr.makeMap t none).run P w = .ok (.map (some w.heap.size)) (w.alloc (.map #[] 0)) := by
    simp [Instr.makeMap, Result.andThen]
  unfold Oper.wp
  simp only [execOp, hop, Option.map_none, Sem.run_bind, hrun, Result.andThen_ok, Sem.run_pure]
  exact hK' _ _ (hK (MapI.made w P k kv ok) ((Below.refl _ _).alloc (Nat.le_refl _) _))
set_option maxRecDepth 100000 in
set_option maxHeartbeats 4000000 in
theorem straight_any (A : Option Addr) (n c : Nat) (ts : List Tq) (w : World) (hT : Trs w w.heap.size A n c ts) (hn : n ≤ 4294967296) :
    Calls Try.prog 17 #[.slice A n c] w fun e w' => e = .returned (.int .i64 (strL ts)) ∧ Below w.heap.size w w' := by
  have HT : Kp _ := ⟨hT⟩
  have HL : Kp _ := ⟨hT.len⟩
  have hn63 := hT.le
  clear hT
  go_enter Try.func17, Try.ntmps17
  go_wp2_with (with_reducible refine wpList_make0 (o := ⟨some 7, _, _, _, _, _⟩) (k := 50) rfl rfl kvQ okQ ?_)
  intro hM1 hB1
  generalize hw1 : w.alloc (.map #[] 0) = w1 at *
  have hM1' : MapI w1 Try.prog 50 kvQ okQ w.heap.size 0 (mapQ A ts 0) := hM1
  have HM1 : Kp _ := ⟨hM1'⟩
  obtain ⟨gm, hgm⟩ : ∃ g, g = w.heap.size := ⟨_, rfl⟩
  have HGm : Kp (w.heap.size ≤ gm) := ⟨by omega⟩
  rw [← hgm] at HM1 ⊢
  clear hM1 hM1' hw1 hgm
  go_wp2
  go_loopg [10] n (fun gk v10 wr => ∃ i mn : Nat, i + gk = n ∧ mn ≤ i ∧ v10 = .int .i64 i ∧ Kp (MapI wr Try.prog 50 kvQ okQ gm mn (mapQ A ts i)) ∧ Below w.heap.size w wr ∧ Kp (∀ j, j < i → badAt ts j = false))
  case atStart => exact ⟨0, 0, by omega, Nat.le_refl _, rfl, HM1, hB1, ⟨fun j h => absurd h (by omega)⟩⟩
  case round =>
    clear HM1 hB1
    obtain ⟨i, mn, hi, hmi, rfl, HM, hB, HN⟩ := hrel
    cases gk with
    | zero =>
      have hlt : ¬ ((i : Int) < (n : Int)) := by omega
      have HE : Kp (i = n) := ⟨by omega⟩
      go_wp2
      go_ret
      exact ⟨by rw [show strL ts = -1 from strF_none _ _ 0 fun j _ h => HN.out j (by rw [HE.out]; rw [HL.out] at h; omega)]; rfl, hB⟩
    | succ g2 =>
      have hlt : (i : Int) < (n : Int) := by omega
      have hin : i < n := by omega
      have hil : i < ts.length := by rw [HL.out]; exact hin
      obtain ⟨ba, oa, A', n', c', hA, hbl, hat⟩ := (HT.out.below hB).at hin
      obtain ⟨kd, hkd⟩ : ∃ z, z = (ts[i]'hil).kind := ⟨_, rfl⟩
      obtain ⟨pl, hpl⟩ : ∃ z, z = (ts[i]'hil).pl := ⟨_, rfl⟩
      obtain ⟨sl, hsl⟩ : ∃ z, z = (ts[i]'hil).sl := ⟨_, rfl⟩
      obtain ⟨bb, hbb⟩ : ∃ z, z = (ts[i]'hil).bs := ⟨_, rfl⟩
      have HKd : Kp (kd = (ts[i]'hil).kind) := ⟨hkd⟩
      have HPl : Kp ((pl, sl) = ((ts[i]'hil).pl, (ts[i]'hil).sl)) := ⟨by rw [hpl, hsl]⟩
      have HBb : Kp (bb = (ts[i]'hil).bs) := ⟨hbb⟩
      have hok := HT.out.ok _ (List.getElem_mem hil)
      have HOk : Kp (okQ (pl, sl)) := ⟨⟨by show (Lit.int .i64 pl).wf = true; rw [hpl]; exact hok.pl, by show (Lit.int .i64 sl).wf = true; rw [hsl]; exact hok.sl⟩⟩
      have q0 := hat.kind
      have q1 := hat.pl
      have q2 := hat.sl
      have q3 := hat.sli
      have qb := hat.bytes
      rw [← hkd] at q0
      rw [← hpl] at q1
      rw [← hsl] at q2
      rw [← hbb] at qb
      obtain ⟨oi, hoi⟩ : ∃ z, z = oa + i * 4 := ⟨_, rfl⟩
      have HPv : Kp (pvA A i = .pointer (some ⟨ba, oi, none⟩)) := ⟨by rw [hA, hoi]; rfl⟩
      rw [← hoi] at q0 q1 q2 q3
      have HA : Kp _ := ⟨hA⟩
      have hoi' : oa + i * 4 = oi := hoi.symm
      have HQb : Kp _ := ⟨qb⟩
      have hbw : ba < wr.heap.size := Nat.lt_of_lt_of_le hbl hB.size
      have HMn : Kp (mn < maxLen) := ⟨by simp only [maxLen]; omega⟩
      have hwr : w.heap.size ≤ wr.heap.size := hB.size
      clear hkd hpl hsl hbb hok hat qb hoi hbl
      subst hA
      go_upto_region 6 with fail
      go_cut [6] from 16 to 24 (fun v6 wx => ∃ g6, v6 = .pointer (some ⟨g6, 0, none⟩) ∧ Kp (Blk wx g6 50 [.int .i64 pl, .int .i64 sl]) ∧ Kp (Below wr.heap.size wr wx))
      case first =>
        go_wp2_with fail
        have hBS : Below wr.heap.size wr wr := Below.refl _ _
        refine wp_region_any (by kernel_rfl) ?_
        change wpAny _ _ _ _ _ _ _ wr.drew
        replace hBS := hBS.drew
        generalize wr.drew = wS at *
        refine wpAny_take (i := 0) (oi := ⟨some 16, _, _, _, _, _⟩) (v := ?_) rfl (by kernel_rfl) (by kernel_rfl) (by kernel_rfl) (fun _ _ _ h => h) (Or.inl ⟨by rfl, by intro w; go_simp; try rfl⟩) ?_
        try simp only [Act.put, List.setIfInBounds_toArray, List.set_cons_zero, List.set_cons_succ]
        refine wpAny_take (i := 1) (oi := ⟨some 17, _, _, _, _, _⟩) (v := ?_) rfl (by kernel_rfl) (by kernel_rfl) (by kernel_rfl) (fun _ _ _ h => h) (Or.inl ⟨by rfl, by intro w; go_simp; try rfl⟩) ?_
        try simp only [Act.put, List.setIfInBounds_toArray, List.set_cons_zero, List.set_cons_succ]
        refine wpAny_take (i := 2) (oi := ⟨some 18, _, _, _, _, _⟩) (v := ?_) rfl (by kernel_rfl) (by kernel_rfl) (by kernel_rfl) (fun _ _ _ h => h) (Or.inl ⟨by rfl, by intro w; go_simp; try rfl⟩) ?_
        try simp only [Act.put, List.setIfInBounds_toArray, List.set_cons_zero, List.set_cons_succ]
        refine wpAny_take (i := 4) (oi := ⟨some 20, _, _, _, _, _⟩) (v := ?_) rfl (by kernel_rfl) (by kernel_rfl) (by kernel_rfl) (fun _ _ _ h => h) (Or.inl ⟨by rfl, by intro w; go_simp; try rfl⟩) ?_
        try simp only [Act.put, List.setIfInBounds_toArray, List.set_cons_zero, List.set_cons_succ]
        refine wpAny_take (i := 5) (oi := ⟨some 21, _, _, _, _, _⟩) (v := ?_) rfl (by kernel_rfl) (by kernel_rfl) (by kernel_rfl) (fun _ _ _ h => h) (Or.inl ⟨by rfl, by intro w; go_simp; try rfl⟩) ?_
        try simp only [Act.put, List.setIfInBounds_toArray, List.set_cons_zero, List.set_cons_succ]
        refine wpAny_take (i := 6) (oi := ⟨some 22, _, _, _, _, _⟩) (v := ?_) rfl (by kernel_rfl) (by kernel_rfl) (by kernel_rfl) (fun _ _ _ h => h) (Or.inl ⟨by rfl, by intro w; go_simp; try rfl⟩) ?_
        try simp only [Act.put, List.setIfInBounds_toArray, List.set_cons_zero, List.set_cons_succ]
        refine wpAny_ready (rs := [3, 7, 9]) (by kernel_rfl) (by simp) ?_
        refine AllReady.cons (o := ⟨some 19, _, _, _, _, _⟩) rfl (fun K hK => ?_) (AllReady.cons (o := ⟨some 23, _, _, _, _, _⟩) rfl (fun K hK => ?_) (AllReady.cons (o := ⟨some 6, _, _, _, _, _⟩) rfl (fun K hK => ?_) AllReady.nil))
        · have c0 := (hBS.cell (p := ⟨ba, oi + 1, none⟩) hbw).trans q1
          go_simp
          refine hK _ _ ?_
          clear hK K c0
          try simp only [Act.put, List.setIfInBounds_toArray, List.set_cons_zero, List.set_cons_succ]
          refine wpAny_ready (rs := [7, 9]) (by kernel_rfl) (by simp) ?_
          refine AllReady.cons (o := ⟨some 23, _, _, _, _, _⟩) rfl (fun K hK => ?_) (AllReady.cons (o := ⟨some 6, _, _, _, _, _⟩) rfl (fun K hK => ?_) AllReady.nil)
          · have c0 := (hBS.cell (p := ⟨ba, oi + 2, none⟩) hbw).trans q2
            go_simp
            refine hK _ _ ?_
            clear hK K c0
            try simp only [Act.put, List.setIfInBounds_toArray, List.set_cons_zero, List.set_cons_succ]
            refine wpAny_take (i := 8) (oi := ⟨some 24, _, _, _, _, _⟩) (v := ?_) rfl (by kernel_rfl) (by kernel_rfl) (by kernel_rfl) (fun _ _ _ h => h) (Or.inl ⟨by rfl, by intro w; go_simp; try rfl⟩) ?_
            try simp only [Act.put, List.setIfInBounds_toArray, List.set_cons_zero, List.set_cons_succ]
            refine wpAny_ready (rs := [9]) (by kernel_rfl) (by simp) ?_
            refine AllReady.cons (o := ⟨some 6, _, _, _, _, _⟩) rfl (fun K hK => ?_) AllReady.nil
            refine step_alloc tyQ rfl rfl ?_
            intro w63 hk hb'
            refine hK _ _ ?_
            clear hK K
            try simp only [Act.put, List.setIfInBounds_toArray, List.set_cons_zero, List.set_cons_succ]
            have HQ : Kp _ := ⟨hk⟩
            have HSz : Kp (wr.heap.size ≤ wS.heap.size) := ⟨hBS.size⟩
            replace hBS := hBS.trans (hb'.mono hBS.size)
            clear hb' hk
            generalize wS.heap.size = gq at *
            refine wpAny_ready (rs := [10]) (by kernel_rfl) (by simp) ?_
            refine AllReady.cons (o := ⟨none, _, _, _, _, _⟩) rfl (fun K hK => ?_) AllReady.nil
            refine step_store rwQ rfl (.tmp 6) (.tmp 24) rfl rfl (vs := [.int .i64 pl, .int .i64 sl]) rfl HQ.out rfl (fit_all32 (l := zeroQ) rfl) (by intro u hu; simp at hu; rcases hu with rfl | rfl <;> rfl) ?_
            intro w64 hk ho
            refine hK _ _ ?_
            clear hK K
            try simp only [Act.put]
            rw [store_all32 (n := 2) rfl] at hk
            refine wpAny_done (by kernel_rfl) ?_ _
            have HQ9 : Kp _ := ⟨hk⟩
            have HB9 : Kp _ := ⟨hBS.trans (ho.below HSz.out)⟩
            clear hk ho HQ HSz hBS
            go_wp2_with fail
            go_meet
            case rel => exact ⟨_, rfl, HQ9, HB9⟩
          · refine step_alloc tyQ rfl rfl ?_
            intro w65 hk hb'
            refine hK _ _ ?_
            clear hK K
            try simp only [Act.put, List.setIfInBounds_toArray, List.set_cons_zero, List.set_cons_succ]
            have HQ : Kp _ := ⟨hk⟩
            have HSz : Kp (wr.heap.size ≤ wS.heap.size) := ⟨hBS.size⟩
            replace hBS := hBS.trans (hb'.mono hBS.size)
            clear hb' hk
            generalize wS.heap.size = gq at *
            refine wpAny_ready (rs := [7]) (by kernel_rfl) (by simp) ?_
            refine AllReady.cons (o := ⟨some 23, _, _, _, _, _⟩) rfl (fun K hK => ?_) AllReady.nil
            have c0 := (hBS.cell (p := ⟨ba, oi + 2, none⟩) hbw).trans q2
            go_simp
            refine hK _ _ ?_
            clear hK K c0
            try simp only [Act.put, List.setIfInBounds_toArray, List.set_cons_zero, List.set_cons_succ]
            refine wpAny_take (i := 8) (oi := ⟨some 24, _, _, _, _, _⟩) (v := ?_) rfl (by kernel_rfl) (by kernel_rfl) (by kernel_rfl) (fun _ _ _ h => h) (Or.inl ⟨by rfl, by intro w; go_simp; try rfl⟩) ?_
            try simp only [Act.put, List.setIfInBounds_toArray, List.set_cons_zero, List.set_cons_succ]
            refine wpAny_ready (rs := [10]) (by kernel_rfl) (by simp) ?_
            refine AllReady.cons (o := ⟨none, _, _, _, _, _⟩) rfl (fun K hK => ?_) AllReady.nil
            refine step_store rwQ rfl (.tmp 6) (.tmp 24) rfl rfl (vs := [.int .i64 pl, .int .i64 sl]) rfl HQ.out rfl (fit_all32 (l := zeroQ) rfl) (by intro u hu; simp at hu; rcases hu with rfl | rfl <;> rfl) ?_
            intro w67 hk ho
            refine hK _ _ ?_
            clear hK K
            try simp only [Act.put]
            rw [store_all32 (n := 2) rfl] at hk
            refine wpAny_done (by kernel_rfl) ?_ _
            have HQ9 : Kp _ := ⟨hk⟩
            have HB9 : Kp _ := ⟨hBS.trans (ho.below HSz.out)⟩
            clear hk ho HQ HSz hBS
            go_wp2_with fail
            go_meet
            case rel => exact ⟨_, rfl, HQ9, HB9⟩
        · have c0 := (hBS.cell (p := ⟨ba, oi + 2, none⟩) hbw).trans q2
          go_simp
          refine hK _ _ ?_
          clear hK K c0
          try simp only [Act.put, List.setIfInBounds_toArray, List.set_cons_zero, List.set_cons_succ]
          refine wpAny_ready (rs := [3, 9]) (by kernel_rfl) (by simp) ?_
          refine AllReady.cons (o := ⟨some 19, _, _, _, _, _⟩) rfl (fun K hK => ?_) (AllReady.cons (o := ⟨some 6, _, _, _, _, _⟩) rfl (fun K hK => ?_) AllReady.nil)
          · have c0 := (hBS.cell (p := ⟨ba, oi + 1, none⟩) hbw).trans q1
            go_simp
            refine hK _ _ ?_
            clear hK K c0
            try simp only [Act.put, List.setIfInBounds_toArray, List.set_cons_zero, List.set_cons_succ]
            refine wpAny_take (i := 8) (oi := ⟨some 24, _, _, _, _, _⟩) (v := ?_) rfl (by kernel_rfl) (by kernel_rfl) (by kernel_rfl) (fun _ _ _ h => h) (Or.inl ⟨by rfl, by intro w; go_simp; try rfl⟩) ?_
            try simp only [Act.put, List.setIfInBounds_toArray, List.set_cons_zero, List.set_cons_succ]
            refine wpAny_ready (rs := [9]) (by kernel_rfl) (by simp) ?_
            refine AllReady.cons (o := ⟨some 6, _, _, _, _, _⟩) rfl (fun K hK => ?_) AllReady.nil
            refine step_alloc tyQ rfl rfl ?_
            intro w70 hk hb'
            refine hK _ _ ?_
            clear hK K
            try simp only [Act.put, List.setIfInBounds_toArray, List.set_cons_zero, List.set_cons_succ]
            have HQ : Kp _ := ⟨hk⟩
            have HSz : Kp (wr.heap.size ≤ wS.heap.size) := ⟨hBS.size⟩
            replace hBS := hBS.trans (hb'.mono hBS.size)
            clear hb' hk
            generalize wS.heap.size = gq at *
            refine wpAny_ready (rs := [10]) (by kernel_rfl) (by simp) ?_
            refine AllReady.cons (o := ⟨none, _, _, _, _, _⟩) rfl (fun K hK => ?_) AllReady.nil
            refine step_store rwQ rfl (.tmp 6) (.tmp 24) rfl rfl (vs := [.int .i64 pl, .int .i64 sl]) rfl HQ.out rfl (fit_all32 (l := zeroQ) rfl) (by intro u hu; simp at hu; rcases hu with rfl | rfl <;> rfl) ?_
            intro w71 hk ho
            refine hK _ _ ?_
            clear hK K
            try simp only [Act.put]
            rw [store_all32 (n := 2) rfl] at hk
            refine wpAny_done (by kernel_rfl) ?_ _
            have HQ9 : Kp _ := ⟨hk⟩
            have HB9 : Kp _ := ⟨hBS.trans (ho.below HSz.out)⟩
            clear hk ho HQ HSz hBS
            go_wp2_with fail
            go_meet
            case rel => exact ⟨_, rfl, HQ9, HB9⟩
          · refine step_alloc tyQ rfl rfl ?_
            intro w72 hk hb'
            refine hK _ _ ?_
            clear hK K
            try simp only [Act.put, List.setIfInBounds_toArray, List.set_cons_zero, List.set_cons_succ]
            have HQ : Kp _ := ⟨hk⟩
            have HSz : Kp (wr.heap.size ≤ wS.heap.size) := ⟨hBS.size⟩
            replace hBS := hBS.trans (hb'.mono hBS.size)
            clear hb' hk
            generalize wS.heap.size = gq at *
            refine wpAny_ready (rs := [3]) (by kernel_rfl) (by simp) ?_
            refine AllReady.cons (o := ⟨some 19, _, _, _, _, _⟩) rfl (fun K hK => ?_) AllReady.nil
            have c0 := (hBS.cell (p := ⟨ba, oi + 1, none⟩) hbw).trans q1
            go_simp
            refine hK _ _ ?_
            clear hK K c0
            try simp only [Act.put, List.setIfInBounds_toArray, List.set_cons_zero, List.set_cons_succ]
            refine wpAny_take (i := 8) (oi := ⟨some 24, _, _, _, _, _⟩) (v := ?_) rfl (by kernel_rfl) (by kernel_rfl) (by kernel_rfl) (fun _ _ _ h => h) (Or.inl ⟨by rfl, by intro w; go_simp; try rfl⟩) ?_
            try simp only [Act.put, List.setIfInBounds_toArray, List.set_cons_zero, List.set_cons_succ]
            refine wpAny_ready (rs := [10]) (by kernel_rfl) (by simp) ?_
            refine AllReady.cons (o := ⟨none, _, _, _, _, _⟩) rfl (fun K hK => ?_) AllReady.nil
            refine step_store rwQ rfl (.tmp 6) (.tmp 24) rfl rfl (vs := [.int .i64 pl, .int .i64 sl]) rfl HQ.out rfl (fit_all32 (l := zeroQ) rfl) (by intro u hu; simp at hu; rcases hu with rfl | rfl <;> rfl) ?_
            intro w74 hk ho
            refine hK _ _ ?_
            clear hK K
            try simp only [Act.put]
            rw [store_all32 (n := 2) rfl] at hk
            refine wpAny_done (by kernel_rfl) ?_ _
            have HQ9 : Kp _ := ⟨hk⟩
            have HB9 : Kp _ := ⟨hBS.trans (ho.below HSz.out)⟩
            clear hk ho HQ HSz hBS
            go_wp2_with fail
            go_meet
            case rel => exact ⟨_, rfl, HQ9, HB9⟩
        · refine step_alloc tyQ rfl rfl ?_
          intro w75 hk hb'
          refine hK _ _ ?_
          clear hK K
          try simp only [Act.put, List.setIfInBounds_toArray, List.set_cons_zero, List.set_cons_succ]
          have HQ : Kp _ := ⟨hk⟩
          have HSz : Kp (wr.heap.size ≤ wS.heap.size) := ⟨hBS.size⟩
          replace hBS := hBS.trans (hb'.mono hBS.size)
          clear hb' hk
          generalize wS.heap.size = gq at *
          refine wpAny_ready (rs := [3, 7]) (by kernel_rfl) (by simp) ?_
          refine AllReady.cons (o := ⟨some 19, _, _, _, _, _⟩) rfl (fun K hK => ?_) (AllReady.cons (o := ⟨some 23, _, _, _, _, _⟩) rfl (fun K hK => ?_) AllReady.nil)
          · have c0 := (hBS.cell (p := ⟨ba, oi + 1, none⟩) hbw).trans q1
            go_simp
            refine hK _ _ ?_
            clear hK K c0
            try simp only [Act.put, List.setIfInBounds_toArray, List.set_cons_zero, List.set_cons_succ]
            refine wpAny_ready (rs := [7]) (by kernel_rfl) (by simp) ?_
            refine AllReady.cons (o := ⟨some 23, _, _, _, _, _⟩) rfl (fun K hK => ?_) AllReady.nil
            have c0 := (hBS.cell (p := ⟨ba, oi + 2, none⟩) hbw).trans q2
            go_simp
            refine hK _ _ ?_
            clear hK K c0
            try simp only [Act.put, List.setIfInBounds_toArray, List.set_cons_zero, List.set_cons_succ]
            refine wpAny_take (i := 8) (oi := ⟨some 24, _, _, _, _, _⟩) (v := ?_) rfl (by kernel_rfl) (by kernel_rfl) (by kernel_rfl) (fun _ _ _ h => h) (Or.inl ⟨by rfl, by intro w; go_simp; try rfl⟩) ?_
            try simp only [Act.put, List.setIfInBounds_toArray, List.set_cons_zero, List.set_cons_succ]
            refine wpAny_ready (rs := [10]) (by kernel_rfl) (by simp) ?_
            refine AllReady.cons (o := ⟨none, _, _, _, _, _⟩) rfl (fun K hK => ?_) AllReady.nil
            refine step_store rwQ rfl (.tmp 6) (.tmp 24) rfl rfl (vs := [.int .i64 pl, .int .i64 sl]) rfl HQ.out rfl (fit_all32 (l := zeroQ) rfl) (by intro u hu; simp at hu; rcases hu with rfl | rfl <;> rfl) ?_
            intro w78 hk ho
            refine hK _ _ ?_
            clear hK K
            try simp only [Act.put]
            rw [store_all32 (n := 2) rfl] at hk
            refine wpAny_done (by kernel_rfl) ?_ _
            have HQ9 : Kp _ := ⟨hk⟩
            have HB9 : Kp _ := ⟨hBS.trans (ho.below HSz.out)⟩
            clear hk ho HQ HSz hBS
            go_wp2_with fail
            go_meet
            case rel => exact ⟨_, rfl, HQ9, HB9⟩
          · have c0 := (hBS.cell (p := ⟨ba, oi + 2, none⟩) hbw).trans q2
            go_simp
            refine hK _ _ ?_
            clear hK K c0
            try simp only [Act.put, List.setIfInBounds_toArray, List.set_cons_zero, List.set_cons_succ]
            refine wpAny_ready (rs := [3]) (by kernel_rfl) (by simp) ?_
            refine AllReady.cons (o := ⟨some 19, _, _, _, _, _⟩) rfl (fun K hK => ?_) AllReady.nil
            have c0 := (hBS.cell (p := ⟨ba, oi + 1, none⟩) hbw).trans q1
            go_simp
            refine hK _ _ ?_
            clear hK K c0
            try simp only [Act.put, List.setIfInBounds_toArray, List.set_cons_zero, List.set_cons_succ]
            refine wpAny_take (i := 8) (oi := ⟨some 24, _, _, _, _, _⟩) (v := ?_) rfl (by kernel_rfl) (by kernel_rfl) (by kernel_rfl) (fun _ _ _ h => h) (Or.inl ⟨by rfl, by intro w; go_simp; try rfl⟩) ?_
            try simp only [Act.put, List.setIfInBounds_toArray, List.set_cons_zero, List.set_cons_succ]
            refine wpAny_ready (rs := [10]) (by kernel_rfl) (by simp) ?_
            refine AllReady.cons (o := ⟨none, _, _, _, _, _⟩) rfl (fun K hK => ?_) AllReady.nil
            refine step_store rwQ rfl (.tmp 6) (.tmp 24) rfl rfl (vs := [.int .i64 pl, .int .i64 sl]) rfl HQ.out rfl (fit_all32 (l := zeroQ) rfl) (by intro u hu; simp at hu; rcases hu with rfl | rfl <;> rfl) ?_
            intro w81 hk ho
            refine hK _ _ ?_
            clear hK K
            try simp only [Act.put]
            rw [store_all32 (n := 2) rfl] at hk
            refine wpAny_done (by kernel_rfl) ?_ _
            have HQ9 : Kp _ := ⟨hk⟩
            have HB9 : Kp _ := ⟨hBS.trans (ho.below HSz.out)⟩
            clear hk ho HQ HSz hBS
            go_wp2_with fail
            go_meet
            case rel => exact ⟨_, rfl, HQ9, HB9⟩
      case rest =>
        obtain ⟨g6, rfl, HQ, HBx⟩ := hcut
        have hBx := HBx.out
        have HM7 : Kp (MapI wc Try.prog 50 kvQ okQ gm mn (mapQ (some ⟨ba, oa, none⟩) ts i)) := ⟨HM.out.stay (hBx.block _ HM.out.lt)⟩
        have p0 : wc.cell? ⟨ba, oi, none⟩ = some (.int .i64 kd) := (hBx.cell (p := ⟨ba, oi, none⟩) hbw).trans q0
        have p3 : wc.cell? ⟨ba, oi + 3, none⟩ = some (.slice A' n' c') := (hBx.cell (p := ⟨ba, oi + 3, none⟩) hbw).trans q3
        have hB7 : Below w.heap.size w wc := hB.trans (hBx.mono hwr)
        have HBs7 : Kp (Bs wc w.heap.size A' n' c' bb) := ⟨HQb.out.below (hBx.mono hwr)⟩
        have hbc : ba < wc.heap.size := Nat.lt_of_lt_of_le hbw hBx.size
        have hwc : w.heap.size ≤ wc.heap.size := hB7.size
        clear hBx HBx HM q0 q1 q2 q3 hB HQb hbw hwr
        by_cases h2 : kd = 2
        · subst h2
          have HNx : Kp _ := ⟨mapQ_next (some ⟨ba, oa, none⟩) ts i hil HKd.out.symm (pl, sl) HPl.out⟩
          have HB2 : Kp (badAt ts i = false) := ⟨by rw [badAt_of ts i hil, ← HKd.out]; rfl⟩
          have c0 : wc.cell? ⟨g6, 0, none⟩ = some (.int .i64 pl) := HQ.out.cell? 0
          have c1 : wc.cell? ⟨g6, 1, none⟩ = some (.int .i64 sl) := HQ.out.cell? 1
          clear HBb HBs7 p3
          go_wp2_with (first | (with_reducible refine wpList_loadAll (o := ⟨some 32, _, _, _, _, _⟩) rwQ rfl (.tmp 6) rfl rfl HQ.out rfl ?_) | (at_mapUpdate; refine wpList_storeI (o := ⟨none, _, _, _, _, _⟩) (u := .pointer (some ⟨ba, oi, none⟩)) HM7.out keyQ rfl (.tmp 31) (.tmp 32) (.tmp 33) rfl Try.underlying47 HMn.out rfl (pl, sl) HOk.out rfl rfl ?_; intro w9 hM9 ho9; rw [← HPv.out, HNx.out] at hM9; have HM9 : Kp _ := ⟨hM9⟩; have hB9 := hB7.trans (ho9.below HGm.out); clear hM9 ho9 HM7 HQ hB7 c0 c1 p0 HNx HMn))
          obtain ⟨m9, hm9⟩ : ∃ m9, m9 = (if (mapQ (some ⟨ba, oa, none⟩) ts i (pl, sl)).isSome = true then mn else mn + 1) := ⟨_, rfl⟩
          have hm9' : m9 ≤ i + 1 := by rw [hm9]; split <;> omega
          rw [← hm9] at HM9
          clear hm9
          go_wp2
          go_roundg g2
          case measure => omega
          case rel => exact ⟨i + 1, m9, by omega, hm9', by go_num, HM9, hB9, ⟨fun j hj => by
            by_cases e : j = i
            · rw [e]; exact HB2.out
            · exact HN.out j (by omega)⟩⟩
        · have HNx : Kp _ := ⟨mapQ_same (some ⟨ba, oa, none⟩) ts i hil (by rw [← HKd.out]; exact h2)⟩
          by_cases h1 : kd = 1
          · subst h1
            have HBad : Kp (badAt ts i = !(bb == keptL ts (lastW ts i (pl, sl)))) := ⟨by
              have hp := HPl.out
              rw [badAt_of ts i hil, ← HKd.out, ← HBb.out, ← hp]
              rfl⟩
            have HLt : Kp (∀ j, lastW ts i (pl, sl) = some j → j < n) := ⟨fun j hj => by have := (lastW_lt ts _ i j hj).1; omega⟩
            go_upto_region 11 with fail
            have HTw : Kp (∀ W, Below wc.heap.size wc W → Trs W W.heap.size (some ⟨ba, oa, none⟩) n c ts) := ⟨fun W hW => by
              have h := hB7.trans (hW.mono hwc)
              exact (HT.out.below h).more h.size⟩
            have hk3 : wc.drew.cell? ⟨ba, oi + 3, none⟩ = some (.slice A' n' c') := p3
            have HBs9 : Kp (Bs wc.drew wc.drew.heap.size A' n' c' bb) := ⟨(HBs7.out.more hwc).drew⟩
            have HM9 : Kp (MapI wc.drew Try.prog 50 kvQ okQ gm mn (mapQ (some ⟨ba, oa, none⟩) ts i)) := ⟨HM7.out.stay rfl⟩
            have hBW : Below wc.heap.size wc wc := Below.refl _ _
            have hBS : Below wc.drew.heap.size wc.drew wc.drew := Below.refl _ _
            have hbS : ba < wc.drew.heap.size := hbc
            have hlw : ∀ o, o = lastW ts i (pl, sl) → (mapQ (some ⟨ba, oa, none⟩) ts i (pl, sl)) = o.map (pvA (some ⟨ba, oa, none⟩)) := fun o ho => by rw [ho]; rfl
            obtain ⟨ow, how⟩ : ∃ o, o = lastW ts i (pl, sl) := ⟨_, rfl⟩
            have HLw : Kp ((mapQ (some ⟨ba, oa, none⟩) ts i (pl, sl)).getD (.pointer none) = (ow.map (pvA (some ⟨ba, oa, none⟩))).getD (.pointer none)) := ⟨by rw [hlw ow how]⟩
            rw [← how] at HBad HLt
            clear hlw how p0 p3 HBs7 HM7 HKd HPl HBb
            cases hbq : (bb == keptL ts ow) with
            | true =>
              have HBd : Kp (badAt ts i = false) := ⟨by rw [HBad.out, hbq]; rfl⟩
              have HBq : Kp _ := ⟨hbq⟩
              clear hbq HBad
              refine wp_region_any (by kernel_rfl) ?_
              change wpAny _ _ _ _ _ _ _ wc.drew
              replace HQ : Kp _ := ⟨HQ.out.drew⟩
              replace hBW := hBW.drew
              generalize wc.drew = wS at *
              refine wpAny_take (i := 0) (oi := ⟨some 36, _, _, _, _, _⟩) (v := ?_) rfl (by kernel_rfl) (by kernel_rfl) (by kernel_rfl) (fun _ _ _ h => h) (Or.inl ⟨by rfl, by intro w; go_simp; try rfl⟩) ?_
              try simp only [Act.put, List.setIfInBounds_toArray, List.set_cons_zero, List.set_cons_succ]
              refine wpAny_take (i := 1) (oi := ⟨some 37, _, _, _, _, _⟩) (v := ?_) rfl (by kernel_rfl) (by kernel_rfl) (by kernel_rfl) (fun _ _ _ h => h) (Or.inl ⟨by rfl, by intro w; go_simp; try rfl⟩) ?_
              try simp only [Act.put, List.setIfInBounds_toArray, List.set_cons_zero, List.set_cons_succ]
              refine wpAny_take (i := 2) (oi := ⟨some 38, _, _, _, _, _⟩) (v := ?_) rfl (by kernel_rfl) (by kernel_rfl) (by kernel_rfl) (fun _ _ _ h => h) (Or.inl ⟨by rfl, by intro w; go_simp; try rfl⟩) ?_
              try simp only [Act.put, List.setIfInBounds_toArray, List.set_cons_zero, List.set_cons_succ]
              refine wpAny_take (i := 4) (oi := ⟨some 40, _, _, _, _, _⟩) (v := ?_) rfl (by kernel_rfl) (by kernel_rfl) (by kernel_rfl) (fun _ _ _ h => h) (Or.inl ⟨by rfl, by intro w; go_simp; try rfl⟩) ?_
              try simp only [Act.put, List.setIfInBounds_toArray, List.set_cons_zero, List.set_cons_succ]
              refine wpAny_ready (rs := [3, 5]) (by kernel_rfl) (by simp) ?_
              refine AllReady.cons (o := ⟨some 39, _, _, _, _, _⟩) rfl (fun K hK => ?_) (AllReady.cons (o := ⟨some 41, _, _, _, _, _⟩) rfl (fun K hK => ?_) AllReady.nil)
              · have c0 := (hBS.cell (p := ⟨ba, oi + 3, none⟩) hbS).trans hk3
                go_simp
                refine hK _ _ ?_
                clear hK K c0
                try simp only [Act.put, List.setIfInBounds_toArray, List.set_cons_zero, List.set_cons_succ]
                refine wpAny_ready (rs := [5]) (by kernel_rfl) (by simp) ?_
                refine AllReady.cons (o := ⟨some 41, _, _, _, _, _⟩) rfl (fun K hK => ?_) AllReady.nil
                refine step_load rwQ rfl (.tmp 6) rfl rfl HQ.out (fit_all32 (n := 2) rfl) (take_all32 (n := 2) rfl) ?_
                refine hK _ _ ?_
                clear hK K
                try simp only [Act.put, List.setIfInBounds_toArray, List.set_cons_zero, List.set_cons_succ]
                refine wpAny_ready (rs := [6]) (by kernel_rfl) (by simp) ?_
                refine AllReady.cons (o := ⟨some 42, _, _, _, _, _⟩) rfl (fun K hK => ?_) AllReady.nil
                refine step_lookI (MapI.stay HM9.out (hBS.block _ HM9.out.lt)) keyQ rfl (.tmp 40) (.tmp 41) rfl Try.underlying47 (z := .pointer none) (fun w => rfl) rfl (pl, sl) HOk.out rfl ?_
                rw [HLw.out]
                refine hK _ _ ?_
                clear hK K
                try simp only [Act.put, List.setIfInBounds_toArray, List.set_cons_zero, List.set_cons_succ]
                refine wpAny_ready (rs := [7]) (by kernel_rfl) (by simp) ?_
                refine AllReady.cons (o := ⟨some 43, _, _, _, _, _⟩) rfl (fun K hK => ?_) AllReady.nil
                go_simp
                refine (kept_of (some ⟨ba, oa, none⟩) n c ts ow wS (HTw.out _ hBW) HLt.out).mono ?_
                rintro e w63 ⟨Ak, ck, rfl, hbk, hb'⟩
                refine hK _ _ ?_
                clear hK K
                try simp only [Act.put, List.setIfInBounds_toArray, List.set_cons_zero, List.set_cons_succ]
                replace HQ : Kp _ := ⟨HQ.out.below hb' HQ.out.lt⟩
                replace hBW := hBW.trans (hb'.mono hBW.size)
                have HBk : Kp _ := ⟨hbk⟩
                clear hbk
                replace hBS := hBS.trans (hb'.mono hBS.size)
                clear hb'
                refine wpAny_ready (rs := [8]) (by kernel_rfl) (by simp) ?_
                refine AllReady.cons (o := ⟨some 44, _, _, _, _, _⟩) rfl (fun K hK => ?_) AllReady.nil
                go_simp
                refine (equal_any A' Ak n' c' 272 ck bb (keptL ts ow) w63 ((HBs9.out.below hBS).more hBS.size) HBk.out).mono ?_
                rintro e w64 ⟨rfl, hb'⟩
                refine hK _ _ ?_
                clear hK K
                try simp only [Act.put, List.setIfInBounds_toArray, List.set_cons_zero, List.set_cons_succ]
                replace HQ : Kp _ := ⟨HQ.out.below hb' HQ.out.lt⟩
                replace hBW := hBW.trans (hb'.mono hBW.size)
                replace hBS := hBS.trans (hb'.mono hBS.size)
                clear hb'
                refine wpAny_take (i := 9) (oi := ⟨some 45, _, _, _, _, _⟩) (v := ?_) rfl (by kernel_rfl) (by kernel_rfl) (by kernel_rfl) (fun _ _ _ h => h) (Or.inl ⟨by rfl, by intro w; go_simp; try rfl⟩) ?_
                try simp only [Act.put, List.setIfInBounds_toArray, List.set_cons_zero, List.set_cons_succ]
                refine wpAny_done (by kernel_rfl) ?_ _
                have HM10 : Kp (MapI w64 Try.prog 50 kvQ okQ gm mn (mapQ (some ⟨ba, oa, none⟩) ts (i + 1))) := ⟨by rw [HNx.out]; exact HM9.out.stay (hBS.block _ HM9.out.lt)⟩
                have hB10 := hB7.trans (hBW.mono hwc)
                rw [HBq.out]
                clear HM9 hBW hBS HQ HNx HBk HBs9 HLw
                go_wp2
                go_roundg g2
                case measure => omega
                case rel => exact ⟨i + 1, mn, by omega, by omega, by go_num, HM10, hB10, ⟨fun j hj => (if e : j = i then (by rw [e]; exact HBd.out) else HN.out j (by omega))⟩⟩
              · refine step_load rwQ rfl (.tmp 6) rfl rfl HQ.out (fit_all32 (n := 2) rfl) (take_all32 (n := 2) rfl) ?_
                refine hK _ _ ?_
                clear hK K
                try simp only [Act.put, List.setIfInBounds_toArray, List.set_cons_zero, List.set_cons_succ]
                refine wpAny_ready (rs := [3, 6]) (by kernel_rfl) (by simp) ?_
                refine AllReady.cons (o := ⟨some 39, _, _, _, _, _⟩) rfl (fun K hK => ?_) (AllReady.cons (o := ⟨some 42, _, _, _, _, _⟩) rfl (fun K hK => ?_) AllReady.nil)
                · have c0 := (hBS.cell (p := ⟨ba, oi + 3, none⟩) hbS).trans hk3
                  go_simp
                  refine hK _ _ ?_
                  clear hK K c0
                  try simp only [Act.put, List.setIfInBounds_toArray, List.set_cons_zero, List.set_cons_succ]
                  refine wpAny_ready (rs := [6]) (by kernel_rfl) (by simp) ?_
                  refine AllReady.cons (o := ⟨some 42, _, _, _, _, _⟩) rfl (fun K hK => ?_) AllReady.nil
                  refine step_lookI (MapI.stay HM9.out (hBS.block _ HM9.out.lt)) keyQ rfl (.tmp 40) (.tmp 41) rfl Try.underlying47 (z := .pointer none) (fun w => rfl) rfl (pl, sl) HOk.out rfl ?_
                  rw [HLw.out]
                  refine hK _ _ ?_
                  clear hK K
                  try simp only [Act.put, List.setIfInBounds_toArray, List.set_cons_zero, List.set_cons_succ]
                  refine wpAny_ready (rs := [7]) (by kernel_rfl) (by simp) ?_
                  refine AllReady.cons (o := ⟨some 43, _, _, _, _, _⟩) rfl (fun K hK => ?_) AllReady.nil
                  go_simp
                  refine (kept_of (some ⟨ba, oa, none⟩) n c ts ow wS (HTw.out _ hBW) HLt.out).mono ?_
                  rintro e w67 ⟨Ak, ck, rfl, hbk, hb'⟩
                  refine hK _ _ ?_
                  clear hK K
                  try simp only [Act.put, List.setIfInBounds_toArray, List.set_cons_zero, List.set_cons_succ]
                  replace HQ : Kp _ := ⟨HQ.out.below hb' HQ.out.lt⟩
                  replace hBW := hBW.trans (hb'.mono hBW.size)
                  have HBk : Kp _ := ⟨hbk⟩
                  clear hbk
                  replace hBS := hBS.trans (hb'.mono hBS.size)
                  clear hb'
                  refine wpAny_ready (rs := [8]) (by kernel_rfl) (by simp) ?_
                  refine AllReady.cons (o := ⟨some 44, _, _, _, _, _⟩) rfl (fun K hK => ?_) AllReady.nil
                  go_simp
                  refine (equal_any A' Ak n' c' 272 ck bb (keptL ts ow) w67 ((HBs9.out.below hBS).more hBS.size) HBk.out).mono ?_
                  rintro e w68 ⟨rfl, hb'⟩
                  refine hK _ _ ?_
                  clear hK K
                  try simp only [Act.put, List.setIfInBounds_toArray, List.set_cons_zero, List.set_cons_succ]
                  replace HQ : Kp _ := ⟨HQ.out.below hb' HQ.out.lt⟩
                  replace hBW := hBW.trans (hb'.mono hBW.size)
                  replace hBS := hBS.trans (hb'.mono hBS.size)
                  clear hb'
                  refine wpAny_take (i := 9) (oi := ⟨some 45, _, _, _, _, _⟩) (v := ?_) rfl (by kernel_rfl) (by kernel_rfl) (by kernel_rfl) (fun _ _ _ h => h) (Or.inl ⟨by rfl, by intro w; go_simp; try rfl⟩) ?_
                  try simp only [Act.put, List.setIfInBounds_toArray, List.set_cons_zero, List.set_cons_succ]
                  refine wpAny_done (by kernel_rfl) ?_ _
                  have HM10 : Kp (MapI w68 Try.prog 50 kvQ okQ gm mn (mapQ (some ⟨ba, oa, none⟩) ts (i + 1))) := ⟨by rw [HNx.out]; exact HM9.out.stay (hBS.block _ HM9.out.lt)⟩
                  have hB10 := hB7.trans (hBW.mono hwc)
                  rw [HBq.out]
                  clear HM9 hBW hBS HQ HNx HBk HBs9 HLw
                  go_wp2
                  go_roundg g2
                  case measure => omega
                  case rel => exact ⟨i + 1, mn, by omega, by omega, by go_num, HM10, hB10, ⟨fun j hj => (if e : j = i then (by rw [e]; exact HBd.out) else HN.out j (by omega))⟩⟩
                · refine step_lookI (MapI.stay HM9.out (hBS.block _ HM9.out.lt)) keyQ rfl (.tmp 40) (.tmp 41) rfl Try.underlying47 (z := .pointer none) (fun w => rfl) rfl (pl, sl) HOk.out rfl ?_
                  rw [HLw.out]
                  refine hK _ _ ?_
                  clear hK K
                  try simp only [Act.put, List.setIfInBounds_toArray, List.set_cons_zero, List.set_cons_succ]
                  refine wpAny_ready (rs := [3, 7]) (by kernel_rfl) (by simp) ?_
                  refine AllReady.cons (o := ⟨some 39, _, _, _, _, _⟩) rfl (fun K hK => ?_) (AllReady.cons (o := ⟨some 43, _, _, _, _, _⟩) rfl (fun K hK => ?_) AllReady.nil)
                  · have c0 := (hBS.cell (p := ⟨ba, oi + 3, none⟩) hbS).trans hk3
                    go_simp
                    refine hK _ _ ?_
                    clear hK K c0
                    try simp only [Act.put, List.setIfInBounds_toArray, List.set_cons_zero, List.set_cons_succ]
                    refine wpAny_ready (rs := [7]) (by kernel_rfl) (by simp) ?_
                    refine AllReady.cons (o := ⟨some 43, _, _, _, _, _⟩) rfl (fun K hK => ?_) AllReady.nil
                    go_simp
                    refine (kept_of (some ⟨ba, oa, none⟩) n c ts ow wS (HTw.out _ hBW) HLt.out).mono ?_
                    rintro e w71 ⟨Ak, ck, rfl, hbk, hb'⟩
                    refine hK _ _ ?_
                    clear hK K
                    try simp only [Act.put, List.setIfInBounds_toArray, List.set_cons_zero, List.set_cons_succ]
                    replace HQ : Kp _ := ⟨HQ.out.below hb' HQ.out.lt⟩
                    replace hBW := hBW.trans (hb'.mono hBW.size)
                    have HBk : Kp _ := ⟨hbk⟩
                    clear hbk
                    replace hBS := hBS.trans (hb'.mono hBS.size)
                    clear hb'
                    refine wpAny_ready (rs := [8]) (by kernel_rfl) (by simp) ?_
                    refine AllReady.cons (o := ⟨some 44, _, _, _, _, _⟩) rfl (fun K hK => ?_) AllReady.nil
                    go_simp
                    refine (equal_any A' Ak n' c' 272 ck bb (keptL ts ow) w71 ((HBs9.out.below hBS).more hBS.size) HBk.out).mono ?_
                    rintro e w72 ⟨rfl, hb'⟩
                    refine hK _ _ ?_
                    clear hK K
                    try simp only [Act.put, List.setIfInBounds_toArray, List.set_cons_zero, List.set_cons_succ]
                    replace HQ : Kp _ := ⟨HQ.out.below hb' HQ.out.lt⟩
                    replace hBW := hBW.trans (hb'.mono hBW.size)
                    replace hBS := hBS.trans (hb'.mono hBS.size)
                    clear hb'
                    refine wpAny_take (i := 9) (oi := ⟨some 45, _, _, _, _, _⟩) (v := ?_) rfl (by kernel_rfl) (by kernel_rfl) (by kernel_rfl) (fun _ _ _ h => h) (Or.inl ⟨by rfl, by intro w; go_simp; try rfl⟩) ?_
                    try simp only [Act.put, List.setIfInBounds_toArray, List.set_cons_zero, List.set_cons_succ]
                    refine wpAny_done (by kernel_rfl) ?_ _
                    have HM10 : Kp (MapI w72 Try.prog 50 kvQ okQ gm mn (mapQ (some ⟨ba, oa, none⟩) ts (i + 1))) := ⟨by rw [HNx.out]; exact HM9.out.stay (hBS.block _ HM9.out.lt)⟩
                    have hB10 := hB7.trans (hBW.mono hwc)
                    rw [HBq.out]
                    clear HM9 hBW hBS HQ HNx HBk HBs9 HLw
                    go_wp2
                    go_roundg g2
                    case measure => omega
                    case rel => exact ⟨i + 1, mn, by omega, by omega, by go_num, HM10, hB10, ⟨fun j hj => (if e : j = i then (by rw [e]; exact HBd.out) else HN.out j (by omega))⟩⟩
                  · go_simp
                    refine (kept_of (some ⟨ba, oa, none⟩) n c ts ow wS (HTw.out _ hBW) HLt.out).mono ?_
                    rintro e w73 ⟨Ak, ck, rfl, hbk, hb'⟩
                    refine hK _ _ ?_
                    clear hK K
                    try simp only [Act.put, List.setIfInBounds_toArray, List.set_cons_zero, List.set_cons_succ]
                    replace HQ : Kp _ := ⟨HQ.out.below hb' HQ.out.lt⟩
                    replace hBW := hBW.trans (hb'.mono hBW.size)
                    have HBk : Kp _ := ⟨hbk⟩
                    clear hbk
                    replace hBS := hBS.trans (hb'.mono hBS.size)
                    clear hb'
                    refine wpAny_ready (rs := [3]) (by kernel_rfl) (by simp) ?_
                    refine AllReady.cons (o := ⟨some 39, _, _, _, _, _⟩) rfl (fun K hK => ?_) AllReady.nil
                    have c0 := (hBS.cell (p := ⟨ba, oi + 3, none⟩) hbS).trans hk3
                    go_simp
                    refine hK _ _ ?_
                    clear hK K c0
                    try simp only [Act.put, List.setIfInBounds_toArray, List.set_cons_zero, List.set_cons_succ]
                    refine wpAny_ready (rs := [8]) (by kernel_rfl) (by simp) ?_
                    refine AllReady.cons (o := ⟨some 44, _, _, _, _, _⟩) rfl (fun K hK => ?_) AllReady.nil
                    go_simp
                    refine (equal_any A' Ak n' c' 272 ck bb (keptL ts ow) w73 ((HBs9.out.below hBS).more hBS.size) HBk.out).mono ?_
                    rintro e w75 ⟨rfl, hb'⟩
                    refine hK _ _ ?_
                    clear hK K
                    try simp only [Act.put, List.setIfInBounds_toArray, List.set_cons_zero, List.set_cons_succ]
                    replace HQ : Kp _ := ⟨HQ.out.below hb' HQ.out.lt⟩
                    replace hBW := hBW.trans (hb'.mono hBW.size)
                    replace hBS := hBS.trans (hb'.mono hBS.size)
                    clear hb'
                    refine wpAny_take (i := 9) (oi := ⟨some 45, _, _, _, _, _⟩) (v := ?_) rfl (by kernel_rfl) (by kernel_rfl) (by kernel_rfl) (fun _ _ _ h => h) (Or.inl ⟨by rfl, by intro w; go_simp; try rfl⟩) ?_
                    try simp only [Act.put, List.setIfInBounds_toArray, List.set_cons_zero, List.set_cons_succ]
                    refine wpAny_done (by kernel_rfl) ?_ _
                    have HM10 : Kp (MapI w75 Try.prog 50 kvQ okQ gm mn (mapQ (some ⟨ba, oa, none⟩) ts (i + 1))) := ⟨by rw [HNx.out]; exact HM9.out.stay (hBS.block _ HM9.out.lt)⟩
                    have hB10 := hB7.trans (hBW.mono hwc)
                    rw [HBq.out]
                    clear HM9 hBW hBS HQ HNx HBk HBs9 HLw
                    go_wp2
                    go_roundg g2
                    case measure => omega
                    case rel => exact ⟨i + 1, mn, by omega, by omega, by go_num, HM10, hB10, ⟨fun j hj => (if e : j = i then (by rw [e]; exact HBd.out) else HN.out j (by omega))⟩⟩
            | false =>
              have HBd : Kp (badAt ts i = true) := ⟨by rw [HBad.out, hbq]; rfl⟩
              have HBq : Kp _ := ⟨hbq⟩
              clear hbq HBad
              refine wp_region_any (by kernel_rfl) ?_
              change wpAny _ _ _ _ _ _ _ wc.drew
              replace HQ : Kp _ := ⟨HQ.out.drew⟩
              replace hBW := hBW.drew
              generalize wc.drew = wS at *
              refine wpAny_take (i := 0) (oi := ⟨some 36, _, _, _, _, _⟩) (v := ?_) rfl (by kernel_rfl) (by kernel_rfl) (by kernel_rfl) (fun _ _ _ h => h) (Or.inl ⟨by rfl, by intro w; go_simp; try rfl⟩) ?_
              try simp only [Act.put, List.setIfInBounds_toArray, List.set_cons_zero, List.set_cons_succ]
              refine wpAny_take (i := 1) (oi := ⟨some 37, _, _, _, _, _⟩) (v := ?_) rfl (by kernel_rfl) (by kernel_rfl) (by kernel_rfl) (fun _ _ _ h => h) (Or.inl ⟨by rfl, by intro w; go_simp; try rfl⟩) ?_
              try simp only [Act.put, List.setIfInBounds_toArray, List.set_cons_zero, List.set_cons_succ]
              refine wpAny_take (i := 2) (oi := ⟨some 38, _, _, _, _, _⟩) (v := ?_) rfl (by kernel_rfl) (by kernel_rfl) (by kernel_rfl) (fun _ _ _ h => h) (Or.inl ⟨by rfl, by intro w; go_simp; try rfl⟩) ?_
              try simp only [Act.put, List.setIfInBounds_toArray, List.set_cons_zero, List.set_cons_succ]
              refine wpAny_take (i := 4) (oi := ⟨some 40, _, _, _, _, _⟩) (v := ?_) rfl (by kernel_rfl) (by kernel_rfl) (by kernel_rfl) (fun _ _ _ h => h) (Or.inl ⟨by rfl, by intro w; go_simp; try rfl⟩) ?_
              try simp only [Act.put, List.setIfInBounds_toArray, List.set_cons_zero, List.set_cons_succ]
              refine wpAny_ready (rs := [3, 5]) (by kernel_rfl) (by simp) ?_
              refine AllReady.cons (o := ⟨some 39, _, _, _, _, _⟩) rfl (fun K hK => ?_) (AllReady.cons (o := ⟨some 41, _, _, _, _, _⟩) rfl (fun K hK => ?_) AllReady.nil)
              · have c0 := (hBS.cell (p := ⟨ba, oi + 3, none⟩) hbS).trans hk3
                go_simp
                refine hK _ _ ?_
                clear hK K c0
                try simp only [Act.put, List.setIfInBounds_toArray, List.set_cons_zero, List.set_cons_succ]
                refine wpAny_ready (rs := [5]) (by kernel_rfl) (by simp) ?_
                refine AllReady.cons (o := ⟨some 41, _, _, _, _, _⟩) rfl (fun K hK => ?_) AllReady.nil
                refine step_load rwQ rfl (.tmp 6) rfl rfl HQ.out (fit_all32 (n := 2) rfl) (take_all32 (n := 2) rfl) ?_
                refine hK _ _ ?_
                clear hK K
                try simp only [Act.put, List.setIfInBounds_toArray, List.set_cons_zero, List.set_cons_succ]
                refine wpAny_ready (rs := [6]) (by kernel_rfl) (by simp) ?_
                refine AllReady.cons (o := ⟨some 42, _, _, _, _, _⟩) rfl (fun K hK => ?_) AllReady.nil
                refine step_lookI (MapI.stay HM9.out (hBS.block _ HM9.out.lt)) keyQ rfl (.tmp 40) (.tmp 41) rfl Try.underlying47 (z := .pointer none) (fun w => rfl) rfl (pl, sl) HOk.out rfl ?_
                rw [HLw.out]
                refine hK _ _ ?_
                clear hK K
                try simp only [Act.put, List.setIfInBounds_toArray, List.set_cons_zero, List.set_cons_succ]
                refine wpAny_ready (rs := [7]) (by kernel_rfl) (by simp) ?_
                refine AllReady.cons (o := ⟨some 43, _, _, _, _, _⟩) rfl (fun K hK => ?_) AllReady.nil
                go_simp
                refine (kept_of (some ⟨ba, oa, none⟩) n c ts ow wS (HTw.out _ hBW) HLt.out).mono ?_
                rintro e w63 ⟨Ak, ck, rfl, hbk, hb'⟩
                refine hK _ _ ?_
                clear hK K
                try simp only [Act.put, List.setIfInBounds_toArray, List.set_cons_zero, List.set_cons_succ]
                replace HQ : Kp _ := ⟨HQ.out.below hb' HQ.out.lt⟩
                replace hBW := hBW.trans (hb'.mono hBW.size)
                have HBk : Kp _ := ⟨hbk⟩
                clear hbk
                replace hBS := hBS.trans (hb'.mono hBS.size)
                clear hb'
                refine wpAny_ready (rs := [8]) (by kernel_rfl) (by simp) ?_
                refine AllReady.cons (o := ⟨some 44, _, _, _, _, _⟩) rfl (fun K hK => ?_) AllReady.nil
                go_simp
                refine (equal_any A' Ak n' c' 272 ck bb (keptL ts ow) w63 ((HBs9.out.below hBS).more hBS.size) HBk.out).mono ?_
                rintro e w64 ⟨rfl, hb'⟩
                refine hK _ _ ?_
                clear hK K
                try simp only [Act.put, List.setIfInBounds_toArray, List.set_cons_zero, List.set_cons_succ]
                replace HQ : Kp _ := ⟨HQ.out.below hb' HQ.out.lt⟩
                replace hBW := hBW.trans (hb'.mono hBW.size)
                replace hBS := hBS.trans (hb'.mono hBS.size)
                clear hb'
                refine wpAny_take (i := 9) (oi := ⟨some 45, _, _, _, _, _⟩) (v := ?_) rfl (by kernel_rfl) (by kernel_rfl) (by kernel_rfl) (fun _ _ _ h => h) (Or.inl ⟨by rfl, by intro w; go_simp; try rfl⟩) ?_
                try simp only [Act.put, List.setIfInBounds_toArray, List.set_cons_zero, List.set_cons_succ]
                refine wpAny_done (by kernel_rfl) ?_ _
                have hB10 := hB7.trans (hBW.mono hwc)
                rw [HBq.out]
                have HS : Kp (strL ts = (i : Int)) := ⟨strF_some _ _ 0 i (Nat.zero_le _) (by omega) HBd.out fun j _ hj => HN.out j hj⟩
                clear HM9 hBW hBS HQ HNx HBk HBs9 HLw
                go_wp2
                go_ret
                exact ⟨by rw [HS.out]; rfl, hB10⟩
              · refine step_load rwQ rfl (.tmp 6) rfl rfl HQ.out (fit_all32 (n := 2) rfl) (take_all32 (n := 2) rfl) ?_
                refine hK _ _ ?_
                clear hK K
                try simp only [Act.put, List.setIfInBounds_toArray, List.set_cons_zero, List.set_cons_succ]
                refine wpAny_ready (rs := [3, 6]) (by kernel_rfl) (by simp) ?_
                refine AllReady.cons (o := ⟨some 39, _, _, _, _, _⟩) rfl (fun K hK => ?_) (AllReady.cons (o := ⟨some 42, _, _, _, _, _⟩) rfl (fun K hK => ?_) AllReady.nil)
                · have c0 := (hBS.cell (p := ⟨ba, oi + 3, none⟩) hbS).trans hk3
                  go_simp
                  refine hK _ _ ?_
                  clear hK K c0
                  try simp only [Act.put, List.setIfInBounds_toArray, List.set_cons_zero, List.set_cons_succ]
                  refine wpAny_ready (rs := [6]) (by kernel_rfl) (by simp) ?_
                  refine AllReady.cons (o := ⟨some 42, _, _, _, _, _⟩) rfl (fun K hK => ?_) AllReady.nil
                  refine step_lookI (MapI.stay HM9.out (hBS.block _ HM9.out.lt)) keyQ rfl (.tmp 40) (.tmp 41) rfl Try.underlying47 (z := .pointer none) (fun w => rfl) rfl (pl, sl) HOk.out rfl ?_
                  rw [HLw.out]
                  refine hK _ _ ?_
                  clear hK K
                  try simp only [Act.put, List.setIfInBounds_toArray, List.set_cons_zero, List.set_cons_succ]
                  refine wpAny_ready (rs := [7]) (by kernel_rfl) (by simp) ?_
                  refine AllReady.cons (o := ⟨some 43, _, _, _, _, _⟩) rfl (fun K hK => ?_) AllReady.nil
                  go_simp
                  refine (kept_of (some ⟨ba, oa, none⟩) n c ts ow wS (HTw.out _ hBW) HLt.out).mono ?_
                  rintro e w67 ⟨Ak, ck, rfl, hbk, hb'⟩
                  refine hK _ _ ?_
                  clear hK K
                  try simp only [Act.put, List.setIfInBounds_toArray, List.set_cons_zero, List.set_cons_succ]
                  replace HQ : Kp _ := ⟨HQ.out.below hb' HQ.out.lt⟩
                  replace hBW := hBW.trans (hb'.mono hBW.size)
                  have HBk : Kp _ := ⟨hbk⟩
                  clear hbk
                  replace hBS := hBS.trans (hb'.mono hBS.size)
                  clear hb'
                  refine wpAny_ready (rs := [8]) (by kernel_rfl) (by simp) ?_
                  refine AllReady.cons (o := ⟨some 44, _, _, _, _, _⟩) rfl (fun K hK => ?_) AllReady.nil
                  go_simp
                  refine (equal_any A' Ak n' c' 272 ck bb (keptL ts ow) w67 ((HBs9.out.below hBS).more hBS.size) HBk.out).mono ?_
                  rintro e w68 ⟨rfl, hb'⟩
                  refine hK _ _ ?_
                  clear hK K
                  try simp only [Act.put, List.setIfInBounds_toArray, List.set_cons_zero, List.set_cons_succ]
                  replace HQ : Kp _ := ⟨HQ.out.below hb' HQ.out.lt⟩
                  replace hBW := hBW.trans (hb'.mono hBW.size)
                  replace hBS := hBS.trans (hb'.mono hBS.size)
                  clear hb'
                  refine wpAny_take (i := 9) (oi := ⟨some 45, _, _, _, _, _⟩) (v := ?_) rfl (by kernel_rfl) (by kernel_rfl) (by kernel_rfl) (fun _ _ _ h => h) (Or.inl ⟨by rfl, by intro w; go_simp; try rfl⟩) ?_
                  try simp only [Act.put, List.setIfInBounds_toArray, List.set_cons_zero, List.set_cons_succ]
                  refine wpAny_done (by kernel_rfl) ?_ _
                  have hB10 := hB7.trans (hBW.mono hwc)
                  rw [HBq.out]
                  have HS : Kp (strL ts = (i : Int)) := ⟨strF_some _ _ 0 i (Nat.zero_le _) (by omega) HBd.out fun j _ hj => HN.out j hj⟩
                  clear HM9 hBW hBS HQ HNx HBk HBs9 HLw
                  go_wp2
                  go_ret
                  exact ⟨by rw [HS.out]; rfl, hB10⟩
                · refine step_lookI (MapI.stay HM9.out (hBS.block _ HM9.out.lt)) keyQ rfl (.tmp 40) (.tmp 41) rfl Try.underlying47 (z := .pointer none) (fun w => rfl) rfl (pl, sl) HOk.out rfl ?_
                  rw [HLw.out]
                  refine hK _ _ ?_
                  clear hK K
                  try simp only [Act.put, List.setIfInBounds_toArray, List.set_cons_zero, List.set_cons_succ]
                  refine wpAny_ready (rs := [3, 7]) (by kernel_rfl) (by simp) ?_
                  refine AllReady.cons (o := ⟨some 39, _, _, _, _, _⟩) rfl (fun K hK => ?_) (AllReady.cons (o := ⟨some 43, _, _, _, _, _⟩) rfl (fun K hK => ?_) AllReady.nil)
                  · have c0 := (hBS.cell (p := ⟨ba, oi + 3, none⟩) hbS).trans hk3
                    go_simp
                    refine hK _ _ ?_
                    clear hK K c0
                    try simp only [Act.put, List.setIfInBounds_toArray, List.set_cons_zero, List.set_cons_succ]
                    refine wpAny_ready (rs := [7]) (by kernel_rfl) (by simp) ?_
                    refine AllReady.cons (o := ⟨some 43, _, _, _, _, _⟩) rfl (fun K hK => ?_) AllReady.nil
                    go_simp
                    refine (kept_of (some ⟨ba, oa, none⟩) n c ts ow wS (HTw.out _ hBW) HLt.out).mono ?_
                    rintro e w71 ⟨Ak, ck, rfl, hbk, hb'⟩
                    refine hK _ _ ?_
                    clear hK K
                    try simp only [Act.put, List.setIfInBounds_toArray, List.set_cons_zero, List.set_cons_succ]
                    replace HQ : Kp _ := ⟨HQ.out.below hb' HQ.out.lt⟩
                    replace hBW := hBW.trans (hb'.mono hBW.size)
                    have HBk : Kp _ := ⟨hbk⟩
                    clear hbk
                    replace hBS := hBS.trans (hb'.mono hBS.size)
                    clear hb'
                    refine wpAny_ready (rs := [8]) (by kernel_rfl) (by simp) ?_
                    refine AllReady.cons (o := ⟨some 44, _, _, _, _, _⟩) rfl (fun K hK => ?_) AllReady.nil
                    go_simp
                    refine (equal_any A' Ak n' c' 272 ck bb (keptL ts ow) w71 ((HBs9.out.below hBS).more hBS.size) HBk.out).mono ?_
                    rintro e w72 ⟨rfl, hb'⟩
                    refine hK _ _ ?_
                    clear hK K
                    try simp only [Act.put, List.setIfInBounds_toArray, List.set_cons_zero, List.set_cons_succ]
                    replace HQ : Kp _ := ⟨HQ.out.below hb' HQ.out.lt⟩
                    replace hBW := hBW.trans (hb'.mono hBW.size)
                    replace hBS := hBS.trans (hb'.mono hBS.size)
                    clear hb'
                    refine wpAny_take (i := 9) (oi := ⟨some 45, _, _, _, _, _⟩) (v := ?_) rfl (by kernel_rfl) (by kernel_rfl) (by kernel_rfl) (fun _ _ _ h => h) (Or.inl ⟨by rfl, by intro w; go_simp; try rfl⟩) ?_
                    try simp only [Act.put, List.setIfInBounds_toArray, List.set_cons_zero, List.set_cons_succ]
                    refine wpAny_done (by kernel_rfl) ?_ _
                    have hB10 := hB7.trans (hBW.mono hwc)
                    rw [HBq.out]
                    have HS : Kp (strL ts = (i : Int)) := ⟨strF_some _ _ 0 i (Nat.zero_le _) (by omega) HBd.out fun j _ hj => HN.out j hj⟩
                    clear HM9 hBW hBS HQ HNx HBk HBs9 HLw
                    go_wp2
                    go_ret
                    exact ⟨by rw [HS.out]; rfl, hB10⟩
                  · go_simp
                    refine (kept_of (some ⟨ba, oa, none⟩) n c ts ow wS (HTw.out _ hBW) HLt.out).mono ?_
                    rintro e w73 ⟨Ak, ck, rfl, hbk, hb'⟩
                    refine hK _ _ ?_
                    clear hK K
                    try simp only [Act.put, List.setIfInBounds_toArray, List.set_cons_zero, List.set_cons_succ]
                    replace HQ : Kp _ := ⟨HQ.out.below hb' HQ.out.lt⟩
                    replace hBW := hBW.trans (hb'.mono hBW.size)
                    have HBk : Kp _ := ⟨hbk⟩
                    clear hbk
                    replace hBS := hBS.trans (hb'.mono hBS.size)
                    clear hb'
                    refine wpAny_ready (rs := [3]) (by kernel_rfl) (by simp) ?_
                    refine AllReady.cons (o := ⟨some 39, _, _, _, _, _⟩) rfl (fun K hK => ?_) AllReady.nil
                    have c0 := (hBS.cell (p := ⟨ba, oi + 3, none⟩) hbS).trans hk3
                    go_simp
                    refine hK _ _ ?_
                    clear hK K c0
                    try simp only [Act.put, List.setIfInBounds_toArray, List.set_cons_zero, List.set_cons_succ]
                    refine wpAny_ready (rs := [8]) (by kernel_rfl) (by simp) ?_
                    refine AllReady.cons (o := ⟨some 44, _, _, _, _, _⟩) rfl (fun K hK => ?_) AllReady.nil
                    go_simp
                    refine (equal_any A' Ak n' c' 272 ck bb (keptL ts ow) w73 ((HBs9.out.below hBS).more hBS.size) HBk.out).mono ?_
                    rintro e w75 ⟨rfl, hb'⟩
                    refine hK _ _ ?_
                    clear hK K
                    try simp only [Act.put, List.setIfInBounds_toArray, List.set_cons_zero, List.set_cons_succ]
                    replace HQ : Kp _ := ⟨HQ.out.below hb' HQ.out.lt⟩
                    replace hBW := hBW.trans (hb'.mono hBW.size)
                    replace hBS := hBS.trans (hb'.mono hBS.size)
                    clear hb'
                    refine wpAny_take (i := 9) (oi := ⟨some 45, _, _, _, _, _⟩) (v := ?_) rfl (by kernel_rfl) (by kernel_rfl) (by kernel_rfl) (fun _ _ _ h => h) (Or.inl ⟨by rfl, by intro w; go_simp; try rfl⟩) ?_
                    try simp only [Act.put, List.setIfInBounds_toArray, List.set_cons_zero, List.set_cons_succ]
                    refine wpAny_done (by kernel_rfl) ?_ _
                    have hB10 := hB7.trans (hBW.mono hwc)
                    rw [HBq.out]
                    have HS : Kp (strL ts = (i : Int)) := ⟨strF_some _ _ 0 i (Nat.zero_le _) (by omega) HBd.out fun j _ hj => HN.out j hj⟩
                    clear HM9 hBW hBS HQ HNx HBk HBs9 HLw
                    go_wp2
                    go_ret
                    exact ⟨by rw [HS.out]; rfl, hB10⟩
          · have HB2 : Kp (badAt ts i = false) := ⟨by
              rw [badAt_of ts i hil, ← HKd.out]
              simp [h1]⟩
            clear HBb HBs7 p3
            have HM9 : Kp (MapI wc Try.prog 50 kvQ okQ gm mn (mapQ (some ⟨ba, oa, none⟩) ts (i + 1))) := ⟨by rw [HNx.out]; exact HM7.out⟩
            clear HM7 HNx HQ
            go_wp2
            go_roundg g2
            case measure => omega
            case rel => exact ⟨i + 1, mn, by omega, by omega, by go_num, HM9, hB7, ⟨fun j hj => by
              by_cases e : j = i
              · rw [e]; exact HB2.out
              · exact HN.out j (by omega)⟩⟩
end Go.Proofs.Ythpfiieaanioeaa
