/- What the chapter's example fixes: known. -/
import Derived.Test.YtmiobgongddaiaaNdK
namespace Go.Proofs.Ytmiobgongddaiaa
open Go.RowKit Go.Shelf

def zs1 : List Int := [1, 1, 5, 0, 0, 0, 0, 0, 0, 0]
def sp2 : List Sp := [⟨0, 250, 256⟩, ⟨1, 0, 4⟩]
theorem ok_zs1 : okN zs1 = true := by decide
theorem built_zs1 : (Try.prog).built 24 [(0, .int .i64 1), (1, .int .i64 1), (2, .int .i64 5)] = some (cellsZ zs1).toArray := by kernel_rfl
theorem sps_laid (w : World) (t : TypeId) (l : List Sp) (hm : l.length ≤ maxLen) : Sps (w.alloc (.cells (spCells l).toArray t)) (w.heap.size + 1) (some ⟨w.heap.size, 0, none⟩) l.length l.length l := by
  refine ⟨rfl, Nat.le_refl _, hm, (fun h => by cases h), fun _ => ⟨w.heap.size, 0, rfl, Nat.lt_succ_self _, fun j hj i v hv => ?_⟩⟩
  have hi : i < 3 := by
    have := (List.getElem?_eq_some_iff.1 hv).1
    simpa [spV] using this
  rw [(Blk.new w t (spCells l)).cell? (0 + j * 3 + i), Nat.zero_add, Nat.mul_comm, spCells_at l j i hj hi]
  exact hv
section
variable {P : Program} {w : World} {ops : Array Oper} {rest : List Oper} {o : Oper} {a : Act} {Q : Exit → Act → World → Prop} {t : TypeId}
theorem wpList_build3_g (hg : Region.wanted o (yielded ops a.tmps) = true) (i j k : Nat) (x y z : Operand) (hop : o.op = .build t #[(i, x), (j, y), (k, z)]) {v u r : Value} (hx : a.eval x = v) (hy : a.eval y = u) (hz : a.eval z = r) {cs : List Value} (hb : P.built t [(i, v), (j, u), (k, r)] = some cs.toArray)
    (h : wpList P ops Q rest (a.put o.dst (.agg cs.toArray)) w) : wpList P ops Q (o :: rest) a w := by
  refine wpList_step fun K hK => ?_
  rw [if_pos hg]
  unfold Oper.wp execOp
  have hr := run_build (P := P) w t #[(i, v), (j, u), (k, r)] cs.toArray (by simpa using hb)
  simp only [hop, Sem.run_bind, List.map_toArray, List.map_cons, List.map_nil, hx, hy, hz, hr, Result.andThen_ok]
  exact hK _ _ h
end
section
set_option maxRecDepth 100000
set_option maxHeartbeats 4000000
theorem known13_any (w : World) :
    Calls Try.prog 11 #[] w fun e w' => e = .returned (.bool true) ∧ Below w.heap.size w w' := by
  have HC1 : Kp (∀ W, Calls Try.prog 12 #[.agg (cellsZ zs1).toArray] W fun e w' => ∃ A n c, e = .returned (.tuple #[.slice A n c, .int .i64 0]) ∧ Bs w' w'.heap.size A n c (encN zs1) ∧ n ≤ 64 ∧ Below W.heap.size W w') := ⟨fun W => by
    have h := encode_any zs1 rfl W
    unfold encE encA at h
    rw [ok_zs1] at h
    exact h⟩
  have HC2 : Kp (∀ W A n c, Bs W W.heap.size A n c (encN zs1) → Calls Try.prog 19 #[.slice A n c] W fun e w' => e = .returned (.tuple #[.agg (cellsZ zs1).toArray, .int .i64 0]) ∧ Below W.heap.size W w') := ⟨fun W A n c hb => by
    have h := decode_any A n c (encN zs1) W hb
    rw [decA_enc zs1 rfl ok_zs1] at h
    unfold decE at h
    rw [decB_enc zs1 rfl ok_zs1] at h
    exact h⟩
  have HC3 : Kp _ := ⟨fun W => spans_any 250 10 W (by decide) (by decide) (by decide) (by decide)⟩
  rw [show spA 250 10 = sp2 from by decide] at HC3
  have HRun : Kp _ := ⟨fun W => run_eqN W zs1 zs1 rfl rfl⟩
  rw [show (zs1 == zs1) = true from by decide] at HRun
  go_enter Try.func11, Try.ntmps11
  go_wp2_with (refine wpList_build3 rfl 0 1 2 _ _ _ rfl rfl rfl rfl built_zs1 ?_)
  refine (HC1.out _).mono ?_
  rintro e w1 ⟨A1, n1, c1, rfl, hbs1, _, hb1⟩
  have HB1 : Kp _ := ⟨hb1⟩
  have HCl : Kp _ := ⟨HC2.out w1 A1 n1 c1 hbs1⟩
  clear hb1 hbs1 HC1 HC2
  go_wp2_with fail
  refine HCl.out.mono ?_
  rintro e w2 ⟨rfl, hb2⟩
  have HB2 : Kp (Below w.heap.size w w2) := ⟨HB1.out.trans (hb2.mono HB1.out.size)⟩
  clear hb2 HB1 HCl
  go_wp2_with (refine wpList_alloc tyNd rfl rfl ?_)
  intro w3 hk3 hb3 _
  obtain ⟨X, hX⟩ : ∃ X, X = w2.heap.size := ⟨_, rfl⟩
  rw [← hX] at hk3 ⊢
  have HX3 : Kp _ := ⟨hk3⟩
  have HB3 : Kp (Below w.heap.size w w3) := ⟨HB2.out.trans (hb3.mono HB2.out.size)⟩
  have HXB : Kp (w.heap.size ≤ X) := ⟨by rw [hX]; exact HB2.out.size⟩
  clear hk3 hb3 hX HB2
  go_wp2_with (refine wpList_storeAll rwNd rfl _ _ rfl rfl HX3.out (n := 10) rfl (vs := cellsZ zs1) rfl (cellsZ_one _) rfl ?_)
  intro w4 hk4 ho4
  have HX4 : Kp _ := ⟨hk4⟩
  have HB4 : Kp (Below w.heap.size w w4) := ⟨HB3.out.trans (ho4.below HXB.out)⟩
  clear hk4 ho4 HX3 HB3
  go_wp2_with (first | refine wpList_loadAll_g rwNd rfl _ rfl rfl HX4.out rfl ?_ | refine wpList_build3_g rfl 0 1 2 _ _ _ rfl rfl rfl rfl built_zs1 ?_ | refine wpList_eql_g eqG rfl _ _ rfl rfl rfl (HRun.out _) ?_)
  refine (HC3.out _).mono ?_
  rintro e w5 ⟨A5, m5, c5, rfl, hsp5, hb5⟩
  have HSp5 : Kp _ := ⟨hsp5⟩
  have HB5 : Kp (Below w.heap.size w w5) := ⟨HB4.out.trans (hb5.mono HB4.out.size)⟩
  have hb6 : Below w5.heap.size w5 (w5.alloc (.cells (spCells sp2).toArray 55)) := (Below.refl _ _).alloc (Nat.le_refl _) _
  have HB6 : Kp (Below w.heap.size w (w5.alloc (.cells (spCells sp2).toArray 55))) := ⟨HB5.out.trans (hb6.mono HB5.out.size)⟩
  have hcall := samespans_any A5 (some ⟨w5.heap.size, 0, none⟩) m5 c5 2 2 sp2 sp2 _ _ _ (HSp5.out.below hb6) (sps_laid w5 55 sp2 (by decide))
  rw [show (sp2 == sp2) = true from by decide] at hcall
  have HCl : Kp _ := ⟨hcall⟩
  clear hsp5 hb5 hb6 hcall HB4 HX4 HC3 HRun
  go_wp2_with fail
  refine HCl.out.mono ?_
  rintro e w7 ⟨rfl, hb7⟩
  have HB7 : Kp (Below w.heap.size w w7) := ⟨HB6.out.trans (hb7.mono HB6.out.size)⟩
  clear hb7
  go_wp2
  go_ret
  exact ⟨rfl, HB7.out⟩
end
end Go.Proofs.Ytmiobgongddaiaa
