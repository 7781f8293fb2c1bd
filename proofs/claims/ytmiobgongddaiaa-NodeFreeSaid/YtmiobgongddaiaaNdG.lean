/- The contract of package node's fields: all of a record, told by pointers. -/
import Derived.Test.YtmiobgongddaiaaNdF
import Derived.Test.YtmiobgongddaiaaInRound
import Derived.Deep.CutRange
namespace Go.Proofs.Ytmiobgongddaiaa
open Go.RowKit

theorem take_all {l : List Value} {n : Nat} (h : l.length = n) : (l.drop 0).take n = l := by rw [List.drop_zero, List.take_of_length_le (by omega)]
theorem fit_all {l : List Value} {n : Nat} (h : l.length = n) : 0 + n ≤ l.length := by omega
theorem store_all {cs vs : List Value} {n : Nat} (h : cs.length = n) : cs.take 0 ++ vs ++ cs.drop (0 + n) = vs := by rw [List.drop_of_length_le (by omega)]; simp
theorem alloc_ne {w : World} {g : Nat} {t : TypeId} {cs : List Value} (h : Blk w g t cs) : g ≠ w.heap.size := by have := h.lt; omega
/-- the fields of a record in block g; the first k pointers are told -/
def fcell (g k j : Nat) : List Value := if j < 3 + k ∨ j = 9 then fdL g j (wideN.getD j 0) (mostN.getD j 0) else zeroFd
def fldsK (g k : Nat) : List Value := (List.range 10).flatMap (fcell g k)
def fldsC (g : Nat) : List Value := fldsK g 6
theorem fldsK_length (g k : Nat) (hk : k ≤ 6) : (fldsK g k).length = 30 := by
  have hc : k = 0 ∨ k = 1 ∨ k = 2 ∨ k = 3 ∨ k = 4 ∨ k = 5 ∨ k = 6 := by omega
  rcases hc with rfl | rfl | rfl | rfl | rfl | rfl | rfl <;> rfl
theorem fldsK_step (g k : Nat) (hk : k < 6) : (fldsK g k).take ((3 + k) * 3) ++ (fdL g (3 + k) 4 4095 ++ (fldsK g k).drop ((3 + k) * 3 + 3)) = fldsK g (k + 1) := by
  have hc : k = 0 ∨ k = 1 ∨ k = 2 ∨ k = 3 ∨ k = 4 ∨ k = 5 := by omega
  rcases hc with rfl | rfl | rfl | rfl | rfl | rfl <;> rfl
theorem fldsK_one (g k : Nat) : ∀ u ∈ fldsK g k, u.oneCell' = true := by
  intro u hu
  obtain ⟨j, _, hj⟩ := List.mem_flatMap.1 hu
  unfold fcell at hj
  split at hj
  · exact fdL_one _ _ _ _ u hj
  · simp only [zeroFd, List.mem_cons, List.not_mem_nil, or_false] at hj
    rcases hj with rfl | rfl | rfl <;> rfl
theorem fldsC_at (g j : Nat) (hj : j < 10) : ((fldsC g).drop (3 * j)).take 3 = fdL g j (wideN.getD j 0) (mostN.getD j 0) := by
  have hc : j = 0 ∨ j = 1 ∨ j = 2 ∨ j = 3 ∨ j = 4 ∨ j = 5 ∨ j = 6 ∨ j = 7 ∨ j = 8 ∨ j = 9 := by omega
  rcases hc with rfl | rfl | rfl | rfl | rfl | rfl | rfl | rfl | rfl | rfl <;> rfl
section
variable {P : Program} {w : World} {ops : Array Oper} {rest : List Oper} {o : Oper} {a : Act} {Q : Exit → Act → World → Prop} {t e : TypeId}
theorem run_index_fd {n m : Nat} {d : TypeDesc} (ht : P.underlying t = some (.array n e)) (E : Rw P e d m) (cs : List Value) (k : IntKind) (i : Nat) (hi : i < n) (w : World) :
    (Instr.index t (.agg cs.toArray) (.int k (i : Int))).run P w = .ok (.agg ((cs.drop (m * i)).take m).toArray) w := by
  have hin : (0 : Int) ≤ (i : Int) ∧ (i : Int) < (n : Int) := by omega
  obtain ⟨inf, hinf, hsz⟩ : ∃ inf, P.info? e = some inf ∧ inf.size = m := by
    have h := E.size
    cases hq : P.info? e with
    | none => simp [hq] at h
    | some x => exact ⟨x, rfl, by simpa [hq] using h⟩
  have hs : (Go.sizeOf e).run P w = .ok m w := by simp [Go.sizeOf, typeInfo, hinf, hsz]
  have hp : (part e cs.toArray (i * m)).run P w = .ok (.agg ((cs.drop (m * i)).take m).toArray) w := by
    have hr := E.row
    have hu := E.ty
    unfold part
    cases d <;> simp [TypeDesc.isRow] at hr <;> simp [isAgg, run_underlying hu, hs, Nat.mul_comm]
  simp only [Instr.index, asIntOf, Sem.run_bind, Sem.run_pure, Result.andThen_ok, run_underlying ht, if_pos hin, hs, Int.toNat_natCast, hp]
theorem exec_build {ps : Array (Nat × Operand)} (hop : o.op = .build t ps) {vs : List (Nat × Value)} (hvs : ps.toList.map (fun p => (p.1, a.eval p.2)) = vs) {cs : Array Value} (hb : P.built t vs = some cs) : (execOp a.eval o).run P w = .ok (.value (.agg cs)) w := by
  subst hvs
  unfold execOp
  have hr := run_build (P := P) w t (ps.map fun p => (p.1, a.eval p.2)) cs (by simpa using hb)
  simp only [hop, Sem.run_bind, hr, Result.andThen_ok, Sem.run_pure]
/-- an array of structs by value, indexed -/
theorem wpList_index_fd {n m : Nat} {d : TypeDesc} (ht : P.underlying t = some (.array n e)) (E : Rw P e d m) (hg : o.guard = none) (x j : Operand) (hop : o.op = .index t x j) {cs : List Value} (hx : a.eval x = .agg cs.toArray) {k : IntKind} {I : Int} (hj : a.eval j = .int k I) (i : Nat) (hI : I = (i : Int)) (hi : i < n) {vs : List Value} (hv : (cs.drop (m * i)).take m = vs)
    (h : wpList P ops Q rest (a.put o.dst (.agg vs.toArray)) w) : wpList P ops Q (o :: rest) a w := by
  subst hI hv
  refine wpList_plain hg fun K hK => ?_
  unfold Oper.wp
  simp only [execOp, hop, hx, hj, Sem.run_bind, run_index_fd ht E cs k i hi, Result.andThen_ok, Sem.run_pure]
  exact hK _ _ h
end
section
set_option maxRecDepth 100000
set_option maxHeartbeats 2000000
theorem built_fields (g : Nat) : (Try.prog).built 63 [(0, .agg #[.pointer (some ⟨g, 0, none⟩), .int .i64 1, .int .i64 3]), (1, .agg #[.pointer (some ⟨g, 1, none⟩), .int .i64 2, .int .i64 65535]), (2, .agg #[.pointer (some ⟨g, 2, none⟩), .int .i64 4, .int .i64 17920]), (9, .agg (fdL g 9 4 4095).toArray)] = some (fldsK g 0).toArray := by kernel_rfl
theorem fields_any (g : Nat) (w : World) :
    Calls Try.prog 29 #[.pointer (some ⟨g, 0, none⟩)] w fun e w' => e = .returned (.agg (fldsC g).toArray) ∧ Below w.heap.size w w' := by
  go_enter Try.func29, Try.ntmps29
  go_wp2_with (refine wpList_alloc tyFs rfl rfl ?_)
  intro w1 hk1 hb1 _
  obtain ⟨Rb, hRb⟩ : ∃ x, x = w.heap.size := ⟨_, rfl⟩
  rw [← hRb] at hk1
  have HR : Kp _ := ⟨hk1⟩
  have HB : Kp _ := ⟨hb1⟩
  have HRB : Kp (w.heap.size ≤ Rb) := ⟨by omega⟩
  rw [← hRb]
  clear hk1 hb1 hRb
  go_upto_region 1 with fail
  go_cut [3] from 5 to 21 (fun v3 wx => ∃ g3, v3 = .pointer (some ⟨g3, 0, none⟩) ∧ Kp (Blk wx g3 63 (fldsK g 0)) ∧ Kp (Blk wx Rb 63 zeroFs) ∧ Kp (Rb ≠ g3) ∧ Kp (w.heap.size ≤ g3) ∧ Kp (Below w.heap.size w wx))
  case first =>
    go_wp2_with fail
    refine wp_region_any (by kernel_rfl) ?_
    change wpAny _ _ _ _ _ _ _ w1.drew
    replace HB : Kp _ := ⟨HB.out.drew⟩
    replace HR : Kp _ := ⟨HR.out.drew⟩
    generalize w1.drew = wS at *
    refine wpAny_take (i := 0) (oi := ⟨some 5, _, _, _, _, _⟩) (v := ?_) rfl (by kernel_rfl) (by kernel_rfl) (by kernel_rfl) (fun _ _ _ h => h) (Or.inl ⟨by rfl, by intro w; go_simp; try rfl⟩) ?_
    try simp only [Act.put, List.setIfInBounds_toArray, List.set_cons_zero, List.set_cons_succ]
    refine wpAny_take (i := 1) (oi := ⟨some 6, _, _, _, _, _⟩) (v := ?_) rfl (by kernel_rfl) (by kernel_rfl) (by kernel_rfl) (fun _ _ _ h => h) (Or.inl ⟨by rfl, by intro w; go_simp; try rfl⟩) ?_
    try simp only [Act.put, List.setIfInBounds_toArray, List.set_cons_zero, List.set_cons_succ]
    refine wpAny_take (i := 2) (oi := ⟨some 7, _, _, _, _, _⟩) (v := ?_) rfl (by kernel_rfl) (by kernel_rfl) (by kernel_rfl) (fun _ _ _ h => h) (Or.inl ⟨by rfl, by intro w; go_simp; try rfl⟩) ?_
    try simp only [Act.put, List.setIfInBounds_toArray, List.set_cons_zero, List.set_cons_succ]
    refine wpAny_take (i := 3) (oi := ⟨some 8, _, _, _, _, _⟩) (v := ?_) rfl (by kernel_rfl) (by kernel_rfl) (by kernel_rfl) (fun _ _ _ h => h) (Or.inl ⟨by rfl, by intro w; go_simp; try rfl⟩) ?_
    try simp only [Act.put, List.setIfInBounds_toArray, List.set_cons_zero, List.set_cons_succ]
    refine wpAny_take (i := 4) (oi := ⟨some 9, _, _, _, _, _⟩) (v := ?_) rfl (by kernel_rfl) (by kernel_rfl) (by kernel_rfl) (fun _ _ _ h => h) (Or.inl ⟨by rfl, by intro w; go_simp; try rfl⟩) ?_
    try simp only [Act.put, List.setIfInBounds_toArray, List.set_cons_zero, List.set_cons_succ]
    refine wpAny_take (i := 5) (oi := ⟨some 10, _, _, _, _, _⟩) (v := ?_) rfl (by kernel_rfl) (by kernel_rfl) (by kernel_rfl) (fun _ _ _ h => h) (Or.inl ⟨by rfl, by intro w; go_simp; try rfl⟩) ?_
    try simp only [Act.put, List.setIfInBounds_toArray, List.set_cons_zero, List.set_cons_succ]
    refine wpAny_take (i := 6) (oi := ⟨some 11, _, _, _, _, _⟩) (v := ?_) rfl (by kernel_rfl) (by kernel_rfl) (by kernel_rfl) (fun _ _ _ h => h) (Or.inl ⟨by rfl, by intro w; go_simp; try rfl⟩) ?_
    try simp only [Act.put, List.setIfInBounds_toArray, List.set_cons_zero, List.set_cons_succ]
    refine wpAny_take (i := 7) (oi := ⟨some 12, _, _, _, _, _⟩) (v := ?_) rfl (by kernel_rfl) (by kernel_rfl) (by kernel_rfl) (fun _ _ _ h => h) (Or.inl ⟨by rfl, by intro w; go_simp; try rfl⟩) ?_
    try simp only [Act.put, List.setIfInBounds_toArray, List.set_cons_zero, List.set_cons_succ]
    refine wpAny_take (i := 8) (oi := ⟨some 13, _, _, _, _, _⟩) (v := ?_) rfl (by kernel_rfl) (by kernel_rfl) (by kernel_rfl) (fun _ _ _ h => h) (Or.inl ⟨by rfl, by intro w; go_simp; try rfl⟩) ?_
    try simp only [Act.put, List.setIfInBounds_toArray, List.set_cons_zero, List.set_cons_succ]
    refine wpAny_take (i := 9) (oi := ⟨some 14, _, _, _, _, _⟩) (v := ?_) rfl (by kernel_rfl) (by kernel_rfl) (by kernel_rfl) (fun _ _ _ h => h) (Or.inl ⟨by rfl, by intro w; go_simp; try rfl⟩) ?_
    try simp only [Act.put, List.setIfInBounds_toArray, List.set_cons_zero, List.set_cons_succ]
    refine wpAny_take (i := 10) (oi := ⟨some 15, _, _, _, _, _⟩) (v := ?_) rfl (by kernel_rfl) (by kernel_rfl) (by kernel_rfl) (fun _ _ _ h => h) (Or.inl ⟨by rfl, by intro w; go_simp; try rfl⟩) ?_
    try simp only [Act.put, List.setIfInBounds_toArray, List.set_cons_zero, List.set_cons_succ]
    refine wpAny_take (i := 11) (oi := ⟨some 16, _, _, _, _, _⟩) (v := ?_) rfl (by kernel_rfl) (by kernel_rfl) (by kernel_rfl) (fun _ _ _ h => h) (Or.inl ⟨by rfl, by intro w; go_simp; try rfl⟩) ?_
    try simp only [Act.put, List.setIfInBounds_toArray, List.set_cons_zero, List.set_cons_succ]
    refine wpAny_take (i := 12) (oi := ⟨some 17, _, _, _, _, _⟩) (v := ?_) rfl (by kernel_rfl) (by kernel_rfl) (by kernel_rfl) (fun _ _ _ h => h) (Or.inl ⟨by rfl, by intro w; go_simp; try rfl⟩) ?_
    try simp only [Act.put, List.setIfInBounds_toArray, List.set_cons_zero, List.set_cons_succ]
    refine wpAny_take (i := 13) (oi := ⟨some 18, _, _, _, _, _⟩) (v := ?_) rfl (by kernel_rfl) (by kernel_rfl) (by kernel_rfl) (fun _ _ _ h => h) (Or.inl ⟨by rfl, by intro w; go_simp; try rfl⟩) ?_
    try simp only [Act.put, List.setIfInBounds_toArray, List.set_cons_zero, List.set_cons_succ]
    refine wpAny_take (i := 14) (oi := ⟨some 19, _, _, _, _, _⟩) (v := ?_) rfl (by kernel_rfl) (by kernel_rfl) (by kernel_rfl) (fun _ _ _ h => h) (Or.inl ⟨by rfl, by intro w; go_simp; try rfl⟩) ?_
    try simp only [Act.put, List.setIfInBounds_toArray, List.set_cons_zero, List.set_cons_succ]
    repeat' (first
      | ((with_reducible change ite (Region.wanted ⟨some 20, _, _, _, _, _⟩ _ = true) _ _); go_simp; refine (pointer_any g 9 wS).mono ?_; rintro e wZ ⟨rfl, hb'⟩; refine hK _ _ ?_; clear hK K; (try simp only [Act.put, List.setIfInBounds_toArray, List.set_cons_zero, List.set_cons_succ]); (try (replace HA : Kp _ := ⟨HA.out.below hb' HA.out.lt⟩)); replace HB : Kp _ := ⟨HB.out.trans (hb'.mono HB.out.size)⟩; replace HR : Kp _ := ⟨HR.out.below hb' HR.out.lt⟩; clear hb'; obtain ⟨wS, rfl⟩ : ∃ x, x = wZ := ⟨_, rfl⟩; refine wpAny_take (i := 16) (oi := ⟨some 21, _, _, _, _, _⟩) (v := _) rfl (by kernel_rfl) (by kernel_rfl) (by kernel_rfl) (fun _ _ _ h => h) (Or.inl ⟨by rfl, by intro w9; refine exec_build (vs := _) rfl ?_ (built_fields g); rfl⟩) ?_; (try simp only [Act.put, List.setIfInBounds_toArray, List.set_cons_zero, List.set_cons_succ]))
      | ((with_reducible change ite (Region.wanted ⟨some 3, _, _, _, _, _⟩ _ = true) _ _); refine step_alloc tyFs rfl rfl ?_; intro wZ hk hb'; refine hK _ _ ?_; clear hK K; (try simp only [Act.put, List.setIfInBounds_toArray, List.set_cons_zero, List.set_cons_succ]); have HAR : Kp _ := ⟨alloc_ne HR.out⟩; have HAB : Kp _ := ⟨HB.out.size⟩; obtain ⟨Ab, hAb⟩ : ∃ x, x = wS.heap.size := ⟨_, rfl⟩; rw [← hAb] at hk HAR HAB ⊢; clear hAb; have HA : Kp _ := ⟨hk⟩; clear hk; replace HB : Kp _ := ⟨HB.out.trans (hb'.mono HB.out.size)⟩; replace HR : Kp _ := ⟨HR.out.below hb' HR.out.lt⟩; clear hb'; obtain ⟨wS, rfl⟩ : ∃ x, x = wZ := ⟨_, rfl⟩)
      | ((with_reducible change ite (Region.wanted ⟨none, (Go.Op.store _ (Go.Operand.tmp 3) (Go.Operand.tmp 21)), _, _, _, _⟩ _ = true) _ _); refine step_store rwFs rfl (.tmp 3) (.tmp 21) rfl (vs := fldsK g 0) rfl rfl HA.out rfl (fit_all rfl) (fldsK_one _ _) ?_; intro wZ hk ho; refine hK _ _ ?_; clear hK K; (try simp only [Act.put]); rw [store_all (n := 30) rfl] at hk; replace HA : Kp _ := ⟨hk⟩; replace HR : Kp _ := ⟨HR.out.only ho HAR.out⟩; replace HB : Kp _ := ⟨HB.out.trans (ho.below HAB.out)⟩; clear hk ho; obtain ⟨wS, rfl⟩ : ∃ x, x = wZ := ⟨_, rfl⟩)
      | ((with_reducible change wpAny _ _ _ _ _ _ _ _); refine wpAny_ready (rs := [15, 17]) (by decide +kernel) (by simp) ?_; refine AllReady.cons (o := ⟨some 20, _, _, _, _, _⟩) rfl (fun K hK => ?_) (AllReady.cons (o := ⟨some 3, _, _, _, _, _⟩) rfl (fun K hK => ?_) AllReady.nil))
      | ((with_reducible change wpAny _ _ _ _ _ _ _ _); refine wpAny_ready (rs := [15]) (by decide +kernel) (by simp) ?_; refine AllReady.cons (o := ⟨some 20, _, _, _, _, _⟩) rfl (fun K hK => ?_) AllReady.nil)
      | ((with_reducible change wpAny _ _ _ _ _ _ _ _); refine wpAny_ready (rs := [17]) (by decide +kernel) (by simp) ?_; refine AllReady.cons (o := ⟨some 3, _, _, _, _, _⟩) rfl (fun K hK => ?_) AllReady.nil)
      | ((with_reducible change wpAny _ _ _ _ _ _ _ _); refine wpAny_ready (rs := [18]) (by decide +kernel) (by simp) ?_; refine AllReady.cons (o := ⟨none, _, _, _, _, _⟩) rfl (fun K hK => ?_) AllReady.nil)
      | ((with_reducible change wpAny _ _ _ _ _ _ _ _); refine wpAny_done (by decide +kernel) ?_ _; go_wp2_with fail; go_meet; case rel => exact ⟨Ab, rfl, HA, HR, HAR, HAB, HB⟩)
      | fail)
  case rest =>
    obtain ⟨G, rfl, HA, HR2, HNe, HGe, HB2⟩ := hcut
    clear HR HB
    go_wp2
    go_loopg [22] 6 (fun gk v22 wr => ∃ k : Nat, k + gk = 6 ∧ v22 = .int .i64 (k : Int) ∧ Kp (Blk wr G 63 (fldsK g k)) ∧ Kp (Blk wr Rb 63 zeroFs) ∧ Kp (Below w.heap.size w wr))
    case atStart => exact ⟨0, by omega, rfl, HA, HR2, HB2⟩
    case round =>
      obtain ⟨k, hk6, rfl, HAk, HRk, HBk⟩ := hrel
      cases gk with
      | zero =>
        have hend : ¬ ((k : Int) < 6) := by omega
        obtain rfl : k = 6 := by omega
        go_wp2_with (first | refine wpList_loadAll rwFs rfl _ rfl rfl HAk.out (fldsK_length _ _ (by decide)) ?_ | refine wpList_storeAll rwFs rfl _ _ rfl rfl HRk.out (n := 30) rfl (vs := fldsK g 6) (fldsK_length _ _ (by decide)) (fldsK_one _ _) rfl ?_)
        intro w5 hk5 ho5
        have HK5 : Kp _ := ⟨hk5⟩
        have HB5 : Kp (Below w.heap.size w w5) := ⟨HBk.out.trans (ho5.below HRB.out)⟩
        clear hk5 ho5
        go_wp2
        refine ret_arr rfl rwFs rfl HK5.out (fldsK_length _ _ (by decide)) rfl ?_
        exact ⟨rfl, HB5.out⟩
      | succ g2 =>
        have hgo : (k : Int) < 6 := by omega
        have hk : k < 6 := by omega
        go_wp2_with fail
        refine (pointer_any g (3 + k) wr).mono ?_
        rintro e w5 ⟨rfl, hb5⟩
        have HA5 : Kp _ := ⟨HAk.out.below hb5 HAk.out.lt⟩
        have HR5 : Kp _ := ⟨HRk.out.below hb5 HRk.out.lt⟩
        have HB5 : Kp (Below w.heap.size w w5) := ⟨HBk.out.trans (hb5.mono HBk.out.size)⟩
        clear hb5 HAk HRk HBk
        have HLn : Kp ((fldsK g k).length = 30) := ⟨fldsK_length _ _ (by omega)⟩
        have HStp : Kp _ := ⟨fldsK_step g k hk⟩
        go_wp2_with (refine wpList_store rwFd rfl _ _ rfl rfl rfl HA5.out (n := 3) (vs := fdL g (3 + k) 4 4095) rfl (by rw [HLn.out]; omega) (fdL_one _ _ _ _) ?_)
        intro w6 hk6' ho6
        rw [HStp.out] at hk6'
        have HA6 : Kp _ := ⟨hk6'⟩
        have HR6 : Kp _ := ⟨HR5.out.only ho6 HNe.out⟩
        have HB6 : Kp (Below w.heap.size w w6) := ⟨HB5.out.trans (ho6.below HGe.out)⟩
        clear hk6' ho6 HA5 HR5 HB5 HStp HLn
        go_wp2
        go_roundg g2
        case measure => omega
        case rel => exact ⟨k + 1, by omega, by go_num, HA6, HR6, HB6⟩
end
end Go.Proofs.Ytmiobgongddaiaa
