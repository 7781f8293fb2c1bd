/- The contract of the document's Parse. -/
import Derived.Test.YtaedlaeflliibaaDoorPtX
namespace Go.Proofs.YtaedlaeflliibaaDoor
open Go.RowKit Go.Shelf Go.Deep

theorem results_pi {P : Program} {w : World} {tmps : Array Value} {t : TypeId} {fn : Func} {p q : Tmp} (hr : fn.results = #[.cell p t, .tmp q]) {d : TypeDesc} (ht : P.underlying t = some d) (hd : (match d with | .struct _ | .array _ _ => true | _ => false) = true)
    {g : Nat} {t' : TypeId} {cs : List Value} (hx : tmps.getD p undef = .pointer (some ⟨g, 0, none⟩)) (hb : Blk w g t' cs) (hi : (P.info? t).map (·.size) = some cs.length) :
    (results fn tmps).run P w = .ok (.tuple #[.agg cs.toArray, tmps.getD q undef]) w := by
  have hx' : tmps[p]?.getD undef = .pointer (some ⟨g, 0, none⟩) := by simpa using hx
  have h1 : (loadVar t ⟨g, 0, none⟩).run P w = .ok (.agg cs.toArray) w := run_loadVar_row w g t' t cs.toArray (0, 0) d hb.heap ht hd (by rw [hi]; simp)
  simp [results, hr, hx', asAddr, h1]
/-- what lies between two rounds of the document's Parse -/
structure RpI (w : World) (s0 R Pb : Nat) (b : Bool) (F : List Nm) (X : World) : Prop where
  low : Below w.heap.size w X
  size : s0 ≤ X.heap.size
  r2 : Blk X R 25 [.bool false, .slice none 0 0]
  row : ∃ v, Blk X Pb 25 [.bool b, v] ∧ X.ownsRow s0 9 1 v F.length (stCells F)
theorem RpI.step {w : World} {s0 R Pb m c5 : Nat} {b : Bool} {X Y : World} {x : Nm} {F : List Nm} {A5 : Option Addr} {v6 : Value} (h : RpI w s0 R Pb b F X) (hm : m = F.length)
    (hk : Blk X Pb 25 [.bool b, .slice A5 m c5]) (H6 : Y.ownsRow s0 9 1 v6 (m + 1) (stCells F ++ [.string ⟨x.toArray⟩])) (hb6 : Below s0 X Y)
    (l1 : R < s0) (l3 : Pb < s0) (l4 : R ≠ Pb) (l6 : w.heap.size ≤ Pb) (hws : w.heap.size ≤ s0) :
    ∃ A6 c6, v6 = .slice A6 (m + 1) c6 ∧ Y.cell? ⟨Pb, 1, none⟩ = some (.slice A5 m c5) ∧ Y.frozen? ⟨Pb, 1, none⟩ = false ∧ RpI w s0 R Pb b (F ++ [x]) (Y.setCell ⟨Pb, 1, none⟩ (.slice A6 (m + 1) c6)) := by
  obtain ⟨A6, c6, rfl⟩ := own_sl H6
  have low : ∀ g, g < s0 → Y.heap[g]? = X.heap[g]? := fun g hg => hb6.block g hg
  have hkY : Blk Y Pb 25 [.bool b, .slice A5 m c5] := ⟨(low Pb l3).trans hk.heap⟩
  have hz := Only.setCell Y ⟨Pb, 1, none⟩ (.slice A6 (m + 1) c6)
  refine ⟨A6, c6, rfl, hkY.cell? 1, hkY.frozen 1, ?_⟩
  refine ⟨(h.low.trans (hb6.mono hws)).trans (hz.below l6), by rw [hz.size]; exact Nat.le_trans h.size hb6.size, Blk.only ⟨(low R l1).trans h.r2.heap⟩ hz l4, .slice A6 (m + 1) c6, hkY.set 1 _, ?_⟩
  rw [stCells_snoc, List.length_append, List.length_singleton, ← hm]
  exact ownS_only H6 hz (fun e => by have := ownS_low H6 Pb e; omega)
section
set_option maxRecDepth 100000
set_option maxHeartbeats 4000000
theorem refparse_no (s : Nm) (w : World) (hs : s.length < 1 ∨ 200 < s.length) (hl : s.length ≤ 140737488351232) :
    Calls Tryd.prog 12 #[.string ⟨s.toArray⟩] w fun e w' => e = .returned (.tuple #[.agg #[.bool false, .slice none 0 0], .int .i64 11]) ∧ Below w.heap.size w w' := by
  have hsz : (ByteArray.mk s.toArray).size = s.length := by simp [ByteArray.size]
  have hb : Below w.heap.size w (w.alloc (.cells #[.bool false, .slice none 0 0] 25)) := (Below.refl _ w).alloc (Nat.le_refl _) _
  rcases hs with hs | hs
  · have h1 : (s.length : Int) < 1 := by omega
    go_enter Tryd.func12, Tryd.ntmps12
    go_wp2
    refine bodyPost_ret (results_pi rfl Tryd.underlying25 rfl rfl (Blk.new w _ [.bool false, .slice none 0 0]) szPt) rfl ?_
    exact ⟨rfl, hb⟩
  · have h1 : ¬ (s.length : Int) < 1 := by omega
    have h2 : (200 : Int) < (s.length : Int) := by omega
    go_enter Tryd.func12, Tryd.ntmps12
    go_wp2
    refine bodyPost_ret (results_pi rfl Tryd.underlying25 rfl rfl (Blk.new w _ [.bool false, .slice none 0 0]) szPt) rfl ?_
    exact ⟨rfl, hb⟩
/-- the parts that are done, the part under way, and what is left -/
structure Cut (s : Nm) (done : List Nm) (part : Nm) (i : Nat) : Prop where
  eq : splitS s = done ++ contL part (splitS (s.drop i))
  fine : ∀ x ∈ done, badP x = false
theorem Cut.more {s part : Nm} {done : List Nm} {i : Nat} (h : Cut s done part i) (hi : i < s.length) (hc : s[i] ≠ 47) : Cut s done (part ++ [s[i]]) (i + 1) :=
  ⟨by rw [h.eq, List.drop_eq_getElem_cons hi, split_cont _ _ hc, cont_cont _ _ (split_ne _)], h.fine⟩
theorem Cut.part_mem {s part : Nm} {done : List Nm} {i : Nat} (h : Cut s done part i) (he : i = s.length ∨ ∃ hi : i < s.length, s[i] = 47) : part ∈ splitS s ∧ ∀ r, splitS s = done ++ part :: r → True := by
  refine ⟨?_, fun _ _ => trivial⟩
  rw [h.eq]
  rcases he with rfl | ⟨hi, hc⟩
  · rw [List.drop_length]; simp [splitS, contL]
  · rw [List.drop_eq_getElem_cons hi, hc, split_slash]; simp [contL]
theorem Cut.next {s part : Nm} {done : List Nm} {i : Nat} (h : Cut s done part i) (hi : i < s.length) (hc : s[i] = 47) (hb : badP part = false) : Cut s (done ++ [part]) [] (i + 1) := by
  refine ⟨?_, fun x hx => ?_⟩
  · rw [h.eq, List.drop_eq_getElem_cons hi, hc, split_slash, cont_nil (split_ne _)]; simp [contL]
  · rcases List.mem_append.1 hx with hx | hx
    · exact h.fine x hx
    · rw [List.mem_singleton.1 hx]; exact hb
theorem Cut.last {s part : Nm} {done : List Nm} (h : Cut s done part s.length) : splitS s = done ++ [part] := by
  rw [h.eq, List.drop_length]; simp [splitS, contL]
theorem fineS {done : List Nm} (h : ∀ x ∈ done, badP x = false) (part : Nm) (hb : badP part = false) : ∀ x ∈ done ++ [part], badP x = false := fun x hx => by
  rcases List.mem_append.1 hx with hx | hx
  · exact h x hx
  · rw [List.mem_singleton.1 hx]; exact hb
theorem refparse_yes (s : Nm) (w : World) (h1 : 1 ≤ s.length) (h2 : s.length ≤ 200) :
    Calls Tryd.prog 12 #[.string ⟨s.toArray⟩] w fun e w' => ∃ A n c, e = .returned (.tuple #[.agg #[.bool (absS s), .slice A n c], .int .i64 (errS s)]) ∧ Ss w' w'.heap.size A n c (namS s) ∧ Below w.heap.size w w' := by
  have hsz : (ByteArray.mk s.toArray).size = s.length := by simp [ByteArray.size]
  have q1 : ¬ (s.length : Int) < 1 := by omega
  have q2 : ¬ (200 : Int) < (s.length : Int) := by omega
  have q3 : (0 : Int) < (s.length : Int) := by omega
  have hs0 : 0 < s.length := by omega
  obtain ⟨b, hb⟩ : ∃ b, b = slashS s := ⟨_, rfl⟩
  have HB0 : Kp (b = slashS s) := ⟨hb⟩
  have HL : Kp (1 ≤ s.length ∧ s.length ≤ 200) := ⟨h1, h2⟩
  have hb47 : ((((ByteArray.mk s.toArray)[0]'(by rw [hsz]; exact hs0)).toNat : Int) == 47) = b := by
    show (((s[0]).toNat : Int) == 47) = b
    rw [hb]
    cases s with
    | nil => simp at h1
    | cons c t =>
      simp only [List.getElem_cons_zero, slashS, List.head?_cons]
      by_cases hc : c = 47
      · subst hc; rfl
      · rw [show (some c == some (47 : UInt8)) = false by simpa using hc]
        simp only [beq_eq_false_iff_ne]
        intro e
        apply hc
        apply UInt8.toNat_inj.1
        have : (47 : UInt8).toNat = 47 := rfl
        omega
  clear hb h1 h2
  go_enter Tryd.func12, Tryd.ntmps12
  go_upto_region 4 with fail
  have hq := box_two w [.bool false, .slice none 0 0] [.bool b, .slice none 0 0]
  obtain ⟨w1, hw1⟩ : ∃ w1, w1 = (w.alloc (.cells #[.bool false, .slice none 0 0] 25)).alloc (.cells #[.bool b, .slice none 0 0] 25) := ⟨_, rfl⟩
  rw [← hw1]
  have hs1 : w1.heap.size = w.heap.size + 2 := by rw [hw1]; simp
  obtain ⟨R, hR⟩ : ∃ R, R = w.heap.size := ⟨_, rfl⟩
  obtain ⟨Pb, hPb⟩ : ∃ R, R = w.heap.size + 1 := ⟨_, rfl⟩
  obtain ⟨S1, hS1⟩ : ∃ R, R = w1.heap.size := ⟨_, rfl⟩
  have HG : Kp (R = w.heap.size ∧ Pb = R + 1 ∧ S1 = R + 2) := ⟨by omega⟩
  have HI0 : Kp (RpI w S1 R Pb b [] w1) := ⟨⟨by rw [hw1]; exact hq.2.2, by omega, by rw [hw1, hR]; exact hq.1, _, by rw [hw1, hPb]; exact hq.2.1, ownS_nil _ _ _ _⟩⟩
  rw [← hPb, show w.heap.size = R from hR.symm]
  clear hq hw1 hs1 hR hPb hS1 hb47 q1 q2 q3
  go_wp2
  go_loopg [5, 6] (s.length + 1) (fun gk v5 v6 wr => ∃ (i : Nat) (part : Nm) (done : List Nm), i + gk = s.length + 1 ∧ v6 = .int .i64 (i : Int) ∧ v5 = .string ⟨part.toArray⟩ ∧ Kp ((i ≤ s.length ∧ Cut s done part i) ∨ (i = s.length + 1 ∧ splitS s = done ∧ ∀ x ∈ done, badP x = false)) ∧ Kp (RpI w S1 R Pb b (done.filter keepP) wr) ∧ part.length ≤ i)
  case atStart => exact ⟨0, [], [], by omega, rfl, rfl, ⟨.inl ⟨by omega, ⟨by rw [List.drop_zero, cont_nil (split_ne _)]; rfl, fun x hx => by cases hx⟩⟩⟩, HI0, by simp⟩
  case round =>
    obtain ⟨i, part, done, hig, rfl, rfl, HCC, HI, hpl⟩ := hrel
    have hs200 := HL.out.2
    have e1 := eqs_str part []
    have e2 := eqs_str part [46]
    have e3 := eqs_str part [46, 46]
    cases gk with
    | zero =>
      have hend : ¬ ((i : Int) ≤ (s.length : Int)) := by omega
      have HDn : Kp (splitS s = done ∧ ∀ x ∈ done, badP x = false) := ⟨by
        rcases HCC.out with h | h
        · omega
        · exact h.2⟩
      have HOk : Kp (okS s = true) := ⟨okS_of HL.out.1 HL.out.2 (by rw [HDn.out.1]; exact HDn.out.2)⟩
      rw [show done.filter keepP = namS s by rw [namS_ok HOk.out, HDn.out.1]] at HI
      obtain ⟨v, k1, k2⟩ := HI.out.row
      obtain ⟨A5, c5, rfl⟩ := own_sl k2
      obtain ⟨m, hm⟩ : ∃ m, m = (namS s).length := ⟨_, rfl⟩
      rw [← hm] at k1 k2
      have HPk : Kp _ := ⟨k1⟩
      have HOw : Kp _ := ⟨k2⟩
      have c0 : wr.cell? ⟨Pb, 0, none⟩ = some (.bool b) := k1.cell? 0
      have c1 : wr.cell? ⟨Pb, 1, none⟩ = some (.slice A5 m c5) := k1.cell? 1
      have d0 : wr.cell? ⟨R, 0, none⟩ = some (.bool false) := HI.out.r2.cell? 0
      have d1 : wr.cell? ⟨R, 1, none⟩ = some (.slice none 0 0) := HI.out.r2.cell? 1
      have f0 : wr.frozen? ⟨R, 0, none⟩ = false := HI.out.r2.frozen 0
      have f1 : wr.frozen? ⟨R, 1, none⟩ = false := HI.out.r2.frozen 1
      clear k1 k2 hm
      go_wp2
      obtain ⟨Z, hZ⟩ : ∃ Z, Z = (wr.setCell ⟨R, 0, none⟩ (.bool b)).setCell ⟨R, 1, none⟩ (.slice A5 m c5) := ⟨_, rfl⟩
      have hr : Blk Z R 25 [.bool b, .slice A5 m c5] := by rw [hZ]; exact (HI.out.r2.set 0 _).set 1 _
      have ho : Only R wr Z := by rw [hZ]; exact Only.trans (Only.setCell wr ⟨R, 0, none⟩ (.bool b)) (Only.setCell (wr.setCell ⟨R, 0, none⟩ (.bool b)) ⟨R, 1, none⟩ (.slice A5 m c5))
      rw [← hZ]
      have hown := ownS_only HOw.out ho (fun e => by have := ownS_low HOw.out _ e; have := HG.out; omega)
      refine bodyPost_ret (results_pi rfl Tryd.underlying25 rfl rfl hr szPt) rfl ?_
      obtain ⟨A6, c6, e6, hsp⟩ := Ss.of_own hown (fun x hx => by have := (nam_mem hx).2.2.2; omega)
      cases e6
      exact ⟨A5, m, c5, by rw [absS_ok HOk.out, errS_ok HOk.out, ← HB0.out]; rfl, hsp, HI.out.low.trans (ho.below (by have := HG.out; omega))⟩
    | succ g2 =>
      have hle : (i : Int) ≤ (s.length : Int) := by omega
      have HC : Kp (Cut s done part i) := ⟨by
        rcases HCC.out with h | h
        · exact h.2
        · omega⟩
      clear HCC
      have hps : (ByteArray.mk part.toArray).size = part.length := by simp [ByteArray.size]
      by_cases hi : i < s.length
      · have hiI : (i : Int) < (s.length : Int) := by omega
        by_cases hc : s[i] = 47
        · have hcI : ((((ByteArray.mk s.toArray)[i]'(by rw [hsz]; exact hi)).toNat : Int) == 47) = true := by
            show (((s[i]).toNat : Int) == 47) = true
            rw [hc]; rfl
          have fineS := fineS HC.out.fine
          have HMem : Kp (part ∈ splitS s) := ⟨(HC.out.part_mem (.inr ⟨hi, hc⟩)).1⟩
          by_cases p1 : part = []
          · subst p1
            have HSk : Kp ((done ++ [[]]).filter keepP = done.filter keepP) := ⟨by simp [List.filter_append, keepP]⟩
            rw [← HSk.out] at HI
            go_wp2
            go_roundg g2
            case measure => omega
            case rel => exact ⟨i + 1, [], done ++ [[]], by omega, by go_num, rfl, ⟨.inl ⟨by omega, HC.out.next hi hc rfl⟩⟩, HI, by simp⟩
          have pe : part.isEmpty = false := by simpa using p1
          have i1 : (part == []) = false := by simpa using p1
          rw [i1] at e1
          by_cases p2 : part = [46]
          · subst p2
            have HSk : Kp ((done ++ [[46]]).filter keepP = done.filter keepP) := ⟨by simp [List.filter_append, keepP, dotL]⟩
            rw [← HSk.out] at HI
            go_wp2
            go_roundg g2
            case measure => omega
            case rel => exact ⟨i + 1, [], done ++ [[46]], by omega, by go_num, rfl, ⟨.inl ⟨by omega, HC.out.next hi hc rfl⟩⟩, HI, by simp⟩
          have i2 : (part == [46]) = false := by simpa using p2
          rw [i2] at e2
          have HKx : Kp (keepP part = true) := ⟨by
            have e1 : (part == []) = false := by simpa using p1
            have e2 : (part == dotL) = false := by simpa [dotL] using p2
            unfold keepP; rw [e1, e2]; rfl⟩
          by_cases p3 : part = [46, 46]
          · subst p3
            have HNm : Kp (∀ W, _) := ⟨fun W => refnamed_any [46, 46] W (by decide)⟩
            have HFine : Kp (badP [46, 46] = false) := ⟨dots_bad⟩
            clear e1 e2 e3 pe i1 i2 p1 p2
            obtain ⟨v, k1, k2⟩ := HI.out.row
            obtain ⟨A5, c5, rfl⟩ := own_sl k2
            have c1 : wr.cell? ⟨Pb, 1, none⟩ = some (.slice A5 (done.filter keepP).length c5) := k1.cell? 1
            have f1 : wr.frozen? ⟨Pb, 1, none⟩ = false := k1.frozen 1
            have HCn : Kp ((done.filter keepP).length ≤ 201) := ⟨by
              have h1 : (done.filter keepP).length ≤ done.length := List.length_filter_le _ _
              have h2 : done.length ≤ (splitS s).length := by rw [HC.out.eq]; simp
              have h3 := longN_count (splitS s)
              rw [longN_split] at h3
              have := HL.out.2
              omega⟩
            have HEq : Kp ((done ++ [[46, 46]]).filter keepP = done.filter keepP ++ [[46, 46]]) := ⟨by rw [List.filter_append, List.filter_cons, if_pos HKx.out]; simp⟩
            obtain ⟨F, hF⟩ : ∃ F, F = done.filter keepP := ⟨_, rfl⟩
            rw [← hF] at HEq HCn k1 k2 c1 HI
            obtain ⟨m, hm⟩ : ∃ m, m = F.length := ⟨_, rfl⟩
            rw [← hm] at HCn k1 k2 c1
            have HFm : Kp (m = F.length) := ⟨hm⟩
            have HPk : Kp _ := ⟨k1⟩
            have HOw : Kp _ := ⟨k2⟩
            have hXs : S1 ≤ wr.heap.size := HI.out.size
            clear hF hm k1 k2
            go_wp2_with (first
              | (go_at_call 22; refine (HNm.out _).mono ?_; rintro e w9 ⟨rfl, hw9⟩; rw [hw9]; clear hw9 w9)
              | (at_builtin
                 refine wpList_app1 elSt rfl _ _ rfl S1 _ m (stCells F) rfl HOw.out rfl rfl (by have := HCn.out; simp only [maxLen]; omega) (by have := HCn.out; omega) hXs ?_
                 intro v6 Y6 H6 hb6 _ _
                 obtain ⟨A6, c6, rfl, c7, f7, hE⟩ := HI.out.step HFm.out HPk.out H6.out hb6 (by have := HG.out; omega) (by have := HG.out; omega) (by have := HG.out; omega) (by have := HG.out; omega) (by have := HG.out; omega)
                 have HEnd : Kp _ := ⟨hE⟩
                 rw [← HEq.out] at HEnd
                 clear hE H6 hb6 c1 f1))
            go_roundg g2
            case measure => omega
            case rel => exact ⟨i + 1, [], done ++ [[46, 46]], by omega, by go_num, rfl, ⟨.inl ⟨by omega, HC.out.next hi hc HFine.out⟩⟩, HEnd, by simp⟩
          have i3 : (part == [46, 46]) = false := by simpa using p3
          rw [i3] at e3
          have HNm : Kp (∀ W, _) := ⟨fun W => refnamed_any part W (by omega)⟩
          have HD3 : Kp (part ≠ dotsL) := ⟨p3⟩
          clear p1 p2 p3
          cases ho : okNm part with
          | true =>
            rw [ho] at HNm
            have HFine : Kp (badP part = false) := ⟨okNm_bad' ho⟩
            clear ho
            obtain ⟨v, k1, k2⟩ := HI.out.row
            obtain ⟨A5, c5, rfl⟩ := own_sl k2
            have c1 : wr.cell? ⟨Pb, 1, none⟩ = some (.slice A5 (done.filter keepP).length c5) := k1.cell? 1
            have f1 : wr.frozen? ⟨Pb, 1, none⟩ = false := k1.frozen 1
            have HCn : Kp ((done.filter keepP).length ≤ 201) := ⟨by
              have h1 : (done.filter keepP).length ≤ done.length := List.length_filter_le _ _
              have h2 : done.length ≤ (splitS s).length := by rw [HC.out.eq]; simp
              have h3 := longN_count (splitS s)
              rw [longN_split] at h3
              have := HL.out.2
              omega⟩
            have HEq : Kp ((done ++ [part]).filter keepP = done.filter keepP ++ [part]) := ⟨by rw [List.filter_append, List.filter_cons, if_pos HKx.out]; simp⟩
            obtain ⟨F, hF⟩ : ∃ F, F = done.filter keepP := ⟨_, rfl⟩
            rw [← hF] at HEq HCn k1 k2 c1 HI
            obtain ⟨m, hm⟩ : ∃ m, m = F.length := ⟨_, rfl⟩
            rw [← hm] at HCn k1 k2 c1
            have HFm : Kp (m = F.length) := ⟨hm⟩
            have HPk : Kp _ := ⟨k1⟩
            have HOw : Kp _ := ⟨k2⟩
            have hXs : S1 ≤ wr.heap.size := HI.out.size
            clear hF hm k1 k2
            go_wp2_with (first
              | (go_at_call 22; refine (HNm.out _).mono ?_; rintro e w9 ⟨rfl, hw9⟩; rw [hw9]; clear hw9 w9)
              | (at_builtin
                 refine wpList_app1 elSt rfl _ _ rfl S1 _ m (stCells F) rfl HOw.out rfl rfl (by have := HCn.out; simp only [maxLen]; omega) (by have := HCn.out; omega) hXs ?_
                 intro v6 Y6 H6 hb6 _ _
                 obtain ⟨A6, c6, rfl, c7, f7, hE⟩ := HI.out.step HFm.out HPk.out H6.out hb6 (by have := HG.out; omega) (by have := HG.out; omega) (by have := HG.out; omega) (by have := HG.out; omega) (by have := HG.out; omega)
                 have HEnd : Kp _ := ⟨hE⟩
                 rw [← HEq.out] at HEnd
                 clear hE H6 hb6 c1 f1))
            go_roundg g2
            case measure => omega
            case rel => exact ⟨i + 1, [], done ++ [part], by omega, by go_num, rfl, ⟨.inl ⟨by omega, HC.out.next hi hc HFine.out⟩⟩, HEnd, by simp⟩
          | false =>
            rw [ho] at HNm
            have HBad : Kp (badP part = true) := ⟨by
              unfold badP
              rw [HKx.out, ho, show (part == dotsL) = false by simpa using HD3.out]; rfl⟩
            clear ho
            have HNo : Kp (okS s = false) := ⟨okS_mem HMem.out HBad.out⟩
            have c1 : wr.cell? ⟨R, 0, none⟩ = some (.bool false) := HI.out.r2.cell? 0
            have c2 : wr.cell? ⟨R, 1, none⟩ = some (.slice none 0 0) := HI.out.r2.cell? 1
            have f1 : wr.frozen? ⟨R, 0, none⟩ = false := HI.out.r2.frozen 0
            have f2 : wr.frozen? ⟨R, 1, none⟩ = false := HI.out.r2.frozen 1
            go_wp2_with (go_at_call 22; refine (HNm.out _).mono ?_; rintro e w9 ⟨rfl, hw9⟩; rw [hw9]; clear hw9 w9)
            have hrZ := (HI.out.r2.set 0 (.bool false)).set 1 (.slice none 0 0)
            have hbz : Below w.heap.size w ((wr.setCell ⟨R, 0, none⟩ (.bool false)).setCell ⟨R, 1, none⟩ (.slice none 0 0)) := (HI.out.low.trans ((Only.setCell wr ⟨R, 0, none⟩ (.bool false)).below (by have := HG.out; show w.heap.size ≤ R; omega))).trans ((Only.setCell (wr.setCell ⟨R, 0, none⟩ (.bool false)) ⟨R, 1, none⟩ (.slice none 0 0)).below (by have := HG.out; show w.heap.size ≤ R; omega))
            refine bodyPost_ret (results_pi rfl Tryd.underlying25 rfl rfl hrZ szPt) rfl ?_
            exact ⟨none, 0, 0, by rw [absS_no HNo.out, errS_no HNo.out]; rfl, by rw [namS_no HNo.out]; exact Ss.zero _ _, hbz⟩
        · obtain ⟨c, hcc⟩ : ∃ c, c = s[i] := ⟨_, rfl⟩
          have hcI : ((((ByteArray.mk s.toArray)[i]'(by rw [hsz]; exact hi)).toNat : Int) == 47) = false := by
            show (((s[i]).toNat : Int) == 47) = false
            simp only [beq_eq_false_iff_ne]
            intro e
            apply hc
            apply UInt8.toNat_inj.1
            have : (47 : UInt8).toNat = 47 := rfl
            omega
          have HNx : Kp (Cut s done (part ++ [c]) (i + 1)) := ⟨by rw [hcc]; exact HC.out.more hi hc⟩
          have hex : (ByteArray.mk s.toArray).extract i (i + 1) = ⟨([c] : Nm).toArray⟩ := by
            rw [hcc]
            apply ByteArray.ext
            simp [ByteArray.data_extract]
            rw [List.drop_eq_getElem_cons hi, List.take_succ_cons, List.take_zero]
          have hap : (ByteArray.mk part.toArray) ++ ⟨([c] : Nm).toArray⟩ = ⟨(part ++ [c]).toArray⟩ := bs_app part [c]
          have hexs : (ByteArray.mk ([c] : Nm).toArray).size = 1 := rfl
          have hp200 : part.length ≤ 200 := by omega
          clear hc hcc HC e1 e2 e3
          go_wp2
          go_roundg g2
          case measure => omega
          case rel => exact ⟨i + 1, part ++ [c], done, by omega, by go_num, rfl, ⟨.inl ⟨by omega, HNx.out⟩⟩, HI, by simp; omega⟩
      · obtain rfl : i = s.length := by omega
        have hiI : ¬ ((s.length : Int) < (s.length : Int)) := by omega
        · have fineS := fineS HC.out.fine
          have HMem : Kp (part ∈ splitS s) := ⟨(HC.out.part_mem (.inl rfl)).1⟩
          by_cases p1 : part = []
          · subst p1
            have HSk : Kp ((done ++ [[]]).filter keepP = done.filter keepP) := ⟨by simp [List.filter_append, keepP]⟩
            rw [← HSk.out] at HI
            go_wp2
            go_roundg g2
            case measure => omega
            case rel => exact ⟨s.length + 1, [], done ++ [[]], by omega, by go_num, rfl, ⟨.inr ⟨by omega, HC.out.last, fineS [] rfl⟩⟩, HI, by simp⟩
          have pe : part.isEmpty = false := by simpa using p1
          have i1 : (part == []) = false := by simpa using p1
          rw [i1] at e1
          by_cases p2 : part = [46]
          · subst p2
            have HSk : Kp ((done ++ [[46]]).filter keepP = done.filter keepP) := ⟨by simp [List.filter_append, keepP, dotL]⟩
            rw [← HSk.out] at HI
            go_wp2
            go_roundg g2
            case measure => omega
            case rel => exact ⟨s.length + 1, [], done ++ [[46]], by omega, by go_num, rfl, ⟨.inr ⟨by omega, HC.out.last, fineS [46] rfl⟩⟩, HI, by simp⟩
          have i2 : (part == [46]) = false := by simpa using p2
          rw [i2] at e2
          have HKx : Kp (keepP part = true) := ⟨by
            have e1 : (part == []) = false := by simpa using p1
            have e2 : (part == dotL) = false := by simpa [dotL] using p2
            unfold keepP; rw [e1, e2]; rfl⟩
          by_cases p3 : part = [46, 46]
          · subst p3
            have HNm : Kp (∀ W, _) := ⟨fun W => refnamed_any [46, 46] W (by decide)⟩
            have HFine : Kp (badP [46, 46] = false) := ⟨dots_bad⟩
            clear e1 e2 e3 pe i1 i2 p1 p2
            obtain ⟨v, k1, k2⟩ := HI.out.row
            obtain ⟨A5, c5, rfl⟩ := own_sl k2
            have c1 : wr.cell? ⟨Pb, 1, none⟩ = some (.slice A5 (done.filter keepP).length c5) := k1.cell? 1
            have f1 : wr.frozen? ⟨Pb, 1, none⟩ = false := k1.frozen 1
            have HCn : Kp ((done.filter keepP).length ≤ 201) := ⟨by
              have h1 : (done.filter keepP).length ≤ done.length := List.length_filter_le _ _
              have h2 : done.length ≤ (splitS s).length := by rw [HC.out.eq]; simp
              have h3 := longN_count (splitS s)
              rw [longN_split] at h3
              have := HL.out.2
              omega⟩
            have HEq : Kp ((done ++ [[46, 46]]).filter keepP = done.filter keepP ++ [[46, 46]]) := ⟨by rw [List.filter_append, List.filter_cons, if_pos HKx.out]; simp⟩
            obtain ⟨F, hF⟩ : ∃ F, F = done.filter keepP := ⟨_, rfl⟩
            rw [← hF] at HEq HCn k1 k2 c1 HI
            obtain ⟨m, hm⟩ : ∃ m, m = F.length := ⟨_, rfl⟩
            rw [← hm] at HCn k1 k2 c1
            have HFm : Kp (m = F.length) := ⟨hm⟩
            have HPk : Kp _ := ⟨k1⟩
            have HOw : Kp _ := ⟨k2⟩
            have hXs : S1 ≤ wr.heap.size := HI.out.size
            clear hF hm k1 k2
            go_wp2_with (first
              | (go_at_call 22; refine (HNm.out _).mono ?_; rintro e w9 ⟨rfl, hw9⟩; rw [hw9]; clear hw9 w9)
              | (at_builtin
                 refine wpList_app1 elSt rfl _ _ rfl S1 _ m (stCells F) rfl HOw.out rfl rfl (by have := HCn.out; simp only [maxLen]; omega) (by have := HCn.out; omega) hXs ?_
                 intro v6 Y6 H6 hb6 _ _
                 obtain ⟨A6, c6, rfl, c7, f7, hE⟩ := HI.out.step HFm.out HPk.out H6.out hb6 (by have := HG.out; omega) (by have := HG.out; omega) (by have := HG.out; omega) (by have := HG.out; omega) (by have := HG.out; omega)
                 have HEnd : Kp _ := ⟨hE⟩
                 rw [← HEq.out] at HEnd
                 clear hE H6 hb6 c1 f1))
            go_roundg g2
            case measure => omega
            case rel => exact ⟨s.length + 1, [], done ++ [[46, 46]], by omega, by go_num, rfl, ⟨.inr ⟨by omega, HC.out.last, fineS [46, 46] HFine.out⟩⟩, HEnd, by simp⟩
          have i3 : (part == [46, 46]) = false := by simpa using p3
          rw [i3] at e3
          have HNm : Kp (∀ W, _) := ⟨fun W => refnamed_any part W (by omega)⟩
          have HD3 : Kp (part ≠ dotsL) := ⟨p3⟩
          clear p1 p2 p3
          cases ho : okNm part with
          | true =>
            rw [ho] at HNm
            have HFine : Kp (badP part = false) := ⟨okNm_bad' ho⟩
            clear ho
            obtain ⟨v, k1, k2⟩ := HI.out.row
            obtain ⟨A5, c5, rfl⟩ := own_sl k2
            have c1 : wr.cell? ⟨Pb, 1, none⟩ = some (.slice A5 (done.filter keepP).length c5) := k1.cell? 1
            have f1 : wr.frozen? ⟨Pb, 1, none⟩ = false := k1.frozen 1
            have HCn : Kp ((done.filter keepP).length ≤ 201) := ⟨by
              have h1 : (done.filter keepP).length ≤ done.length := List.length_filter_le _ _
              have h2 : done.length ≤ (splitS s).length := by rw [HC.out.eq]; simp
              have h3 := longN_count (splitS s)
              rw [longN_split] at h3
              have := HL.out.2
              omega⟩
            have HEq : Kp ((done ++ [part]).filter keepP = done.filter keepP ++ [part]) := ⟨by rw [List.filter_append, List.filter_cons, if_pos HKx.out]; simp⟩
            obtain ⟨F, hF⟩ : ∃ F, F = done.filter keepP := ⟨_, rfl⟩
            rw [← hF] at HEq HCn k1 k2 c1 HI
            obtain ⟨m, hm⟩ : ∃ m, m = F.length := ⟨_, rfl⟩
            rw [← hm] at HCn k1 k2 c1
            have HFm : Kp (m = F.length) := ⟨hm⟩
            have HPk : Kp _ := ⟨k1⟩
            have HOw : Kp _ := ⟨k2⟩
            have hXs : S1 ≤ wr.heap.size := HI.out.size
            clear hF hm k1 k2
            go_wp2_with (first
              | (go_at_call 22; refine (HNm.out _).mono ?_; rintro e w9 ⟨rfl, hw9⟩; rw [hw9]; clear hw9 w9)
              | (at_builtin
                 refine wpList_app1 elSt rfl _ _ rfl S1 _ m (stCells F) rfl HOw.out rfl rfl (by have := HCn.out; simp only [maxLen]; omega) (by have := HCn.out; omega) hXs ?_
                 intro v6 Y6 H6 hb6 _ _
                 obtain ⟨A6, c6, rfl, c7, f7, hE⟩ := HI.out.step HFm.out HPk.out H6.out hb6 (by have := HG.out; omega) (by have := HG.out; omega) (by have := HG.out; omega) (by have := HG.out; omega) (by have := HG.out; omega)
                 have HEnd : Kp _ := ⟨hE⟩
                 rw [← HEq.out] at HEnd
                 clear hE H6 hb6 c1 f1))
            go_roundg g2
            case measure => omega
            case rel => exact ⟨s.length + 1, [], done ++ [part], by omega, by go_num, rfl, ⟨.inr ⟨by omega, HC.out.last, fineS part HFine.out⟩⟩, HEnd, by simp⟩
          | false =>
            rw [ho] at HNm
            have HBad : Kp (badP part = true) := ⟨by
              unfold badP
              rw [HKx.out, ho, show (part == dotsL) = false by simpa using HD3.out]; rfl⟩
            clear ho
            have HNo : Kp (okS s = false) := ⟨okS_mem HMem.out HBad.out⟩
            have c1 : wr.cell? ⟨R, 0, none⟩ = some (.bool false) := HI.out.r2.cell? 0
            have c2 : wr.cell? ⟨R, 1, none⟩ = some (.slice none 0 0) := HI.out.r2.cell? 1
            have f1 : wr.frozen? ⟨R, 0, none⟩ = false := HI.out.r2.frozen 0
            have f2 : wr.frozen? ⟨R, 1, none⟩ = false := HI.out.r2.frozen 1
            go_wp2_with (go_at_call 22; refine (HNm.out _).mono ?_; rintro e w9 ⟨rfl, hw9⟩; rw [hw9]; clear hw9 w9)
            have hrZ := (HI.out.r2.set 0 (.bool false)).set 1 (.slice none 0 0)
            have hbz : Below w.heap.size w ((wr.setCell ⟨R, 0, none⟩ (.bool false)).setCell ⟨R, 1, none⟩ (.slice none 0 0)) := (HI.out.low.trans ((Only.setCell wr ⟨R, 0, none⟩ (.bool false)).below (by have := HG.out; show w.heap.size ≤ R; omega))).trans ((Only.setCell (wr.setCell ⟨R, 0, none⟩ (.bool false)) ⟨R, 1, none⟩ (.slice none 0 0)).below (by have := HG.out; show w.heap.size ≤ R; omega))
            refine bodyPost_ret (results_pi rfl Tryd.underlying25 rfl rfl hrZ szPt) rfl ?_
            exact ⟨none, 0, 0, by rw [absS_no HNo.out, errS_no HNo.out]; rfl, by rw [namS_no HNo.out]; exact Ss.zero _ _, hbz⟩
theorem refparse_any (s : Nm) (w : World) (hs : s.length ≤ 140737488351232) :
    Calls Tryd.prog 12 #[.string ⟨s.toArray⟩] w fun e w' => ∃ A n c, e = .returned (.tuple #[.agg #[.bool (absS s), .slice A n c], .int .i64 (errS s)]) ∧ Ss w' w'.heap.size A n c (namS s) ∧ Below w.heap.size w w' := by
  by_cases h : s.length < 1 ∨ 200 < s.length
  · have ho : okS s = false := by
      rcases h with h | h
      · exact okS_short h
      · exact okS_long h
    refine (refparse_no s w h hs).mono ?_
    rintro e w' ⟨rfl, hb⟩
    exact ⟨none, 0, 0, by rw [absS_no ho, errS_no ho], by rw [namS_no ho]; exact Ss.zero _ _, hb⟩
  · exact refparse_yes s w (by omega) (by omega)
end
end Go.Proofs.YtaedlaeflliibaaDoor
