/-  -/
import Derived.Test.YtcehkafddlfleaaGreatDoorRows
import Derived.Test.YtcehkafddlfleaaGreatDoorG05
import Derived.Test.YtcehkafddlfleaaGreatDoorG52
import Derived.ShutString
import Derived.SizedLaws
import Derived.Test.YtcehkafddlfleaaGreatDoorG35
import Derived.Test.YtcehkafddlfleaaGreatDoorTie
import Derived.Test.YtcehkafddlfleaaGreatDoorCards
import Derived.SevenTiedAt
namespace Go.Proofs.YtcehkafddlfleaaGreatDoor.memoryKeeps
open Go.ChangeShapes Go.WideShapes Go.ChangeAt Go.RowKit
open Go.ChangeMaps (open_string shut_string)
theorem said_own : ownKnob Tryz.prog.godebug = none := by kernel_rfl
theorem said_laidOut : laidOutB Tryz.prog = true := by kernel_rfl
theorem u8_nat {z : Int} (h : (Lit.int .u8 z).wf = true) : ∃ n : Nat, n < 256 ∧ z = (n : Int) := by
 have h1 : IntKind.u8.min ≤ z ∧ z ≤ IntKind.u8.max := by simpa [Lit.wf] using h
 have h2 : IntKind.u8.min = 0 := rfl
 have h3 : IntKind.u8.max = 255 := rfl
 exact ⟨z.toNat, by omega, by omega⟩
theorem law_memoryKeeps (z : Int) (A : Option Addr) (m c : Nat) (ds : List D3) (w : World) (hz : (Lit.int .u8 z).wf = true) (h : D3s w w.heap.size A m c ds ∧ ∀ x ∈ ds, x.bs.length ≤ 140737488351232) (_ : Ety w) : Calls Tryz.prog 3 #[.int .u8 z, .slice A m c] w fun e w' => e = .returned (.bool true) ∧ Below w.heap.size w w' := by
 obtain ⟨bl, hbl, rfl⟩ := u8_nat hz
 exact law_keeps9 bl hbl A m c ds w h.1 h.2
set_option maxRecDepth 100000 in
theorem lifted (os : Os) (started : os.Started) (H : Type) (enc : TypeId × Value → H) :
  ReturnsInHanded {} Tryz.checked os 3 .any (fun w args => (Rows.memoryKeepsSpec.pre enc Tryz.prog Tryz.f3 [] false w args ∧ laidMetH Tryz.prog Rows.memoryKeepsRow.laid w) ∧ sizedMet enc Tryz.prog Tryz.f3 (OpenSpec.ofChange Rows.memoryKeepsSpec) false w args) (Rows.memoryKeepsSpec.post enc Tryz.prog Tryz.f3 false true false false) := by
 refine returnsInHanded_of_change_and (C := Tryz.checked) (X := fun w _ => laidMetH Tryz.prog Rows.memoryKeepsRow.laid w) (fun _ _ _ hh h => h.of_heap hh) said_own started (by kernel_rfl) Tryz.func3
  (ChangeSpec.witness_at (enc := enc) (C := Tryz.checked) (os := os) (X := fun w _ => laidMetH Tryz.prog Rows.memoryKeepsRow.laid w) false (laidWorld os) #[.int .u8 0, .slice none 0 0] 8 rfl (by kernel_rfl) (by kernel_rfl) (by kernel_rfl) (by kernel_rfl) (by kernel_rfl) (laidWorld_met os _)) ?_
 intro W base args ds gs before hval0 hW hcnd hsz0 hL _
 have hEty := ety_of_laid hL
 have hval : ∀ (j : Nat) t v, Tryz.f3.params[j]? = some t → args[j]? = some v → Value.okWide Tryz.prog W .any base t v := hval0
 have hW' := hW
 obtain ⟨p, q, hA0, hV, rfl, hfz, hnd⟩ := hW
 have hA : DataW.TrodAll enc Tryz.prog W 0 (fun _ => true) true Tryz.f3.params.toList args.toList ds p := hA0
 have hsz : (DataW.weightsEach Tryz.prog (Tryz.f3.params.toList ++ Rows.memoryKeepsSpec.plain.varTypes Tryz.prog) (ds ++ gs)).all (· ≤ reachBytes) = true := hsz0
 rw [Tryz.params3] at hA hval hsz
 obtain ⟨v0, vs0, d0, ds0, p0, q0, hargs, rfl, rfl, h0, r0⟩ := trodAll_cons hA
 obtain ⟨v1, vs1, d1, ds1, p1, q1, rfl, rfl, rfl, h1, r1⟩ := trodAll_cons r0
 obtain ⟨rfl, rfl, rfl⟩ := trodAll_nil r1
 obtain rfl : args = #[v0, v1] := by cases args; simp_all
 obtain ⟨rfl, rfl⟩ := trodVars_none hV
 obtain ⟨a0, rfl, rfl, rfl, w0⟩ := open_int Tryz.underlying5 (hval 0 5 v0 rfl rfl) h0
 obtain ⟨a1, n1, c1, rfl⟩ := okWide_slice Tryz.underlying22 (hval 1 22 v1 rfl rfl)
 have k1 := h1
 have lt1 : ∀ x ∈ p1, x.block < W.heap.size := by obtain ⟨m, hm⟩ := k1; exact DataW.trod_lt m _ _ _ hm
 obtain ⟨g0, g1, g2, dT⟩ := doT9
 obtain ⟨l1, w1⟩ := d3s_open dT Tryz.underlying22 h1 (reach_of hsz (j := 1) rfl rfl)
 clear hA0 hval0 hcnd hsz0
 refine (law_memoryKeeps a0 a1 n1 c1 l1 W w0 w1 hEty).mono fun e W' ⟨he, bel⟩ => ?_
 subst he
 exact ⟨_, rfl, _, _, _, [], _, [], hW', trodAll_mk1 (shut_bool Tryz.underlying4 _), (trodAll_cons_mk (shut_int Tryz.underlying5 w0) (trodAll_cons_mk (Below.trod said_laidOut (by kernel_rfl) (of_decide_eq_true (by kernel_rfl)) k1 bel lt1) trodAll_mk0)), rfl, bel.frame _, fun h => by cases h⟩
set_option maxHeartbeats 4000000 in
theorem jfA : (Rows.memoryKeepsRow.inPlace == Tryz.prog.inPlace 3) = true := by kernel_rfl
set_option maxHeartbeats 4000000 in
theorem jfB : (Rows.memoryKeepsRow.unfollowed == Tryz.prog.unfollowed 3) = true := by kernel_rfl
set_option maxHeartbeats 4000000 in
theorem jfC : (Rows.memoryKeepsRow.recurses == Tryz.prog.recurses 3) = true := by kernel_rfl
set_option maxHeartbeats 4000000 in
theorem jfD : (Rows.memoryKeepsRow.named == Tryz.prog.varsNamed 3) = true := by kernel_rfl
set_option maxHeartbeats 4000000 in
theorem joined : joinedFacts Tryz.prog 3 Tryz.f3 Rows.memoryKeepsSpec Rows.memoryKeepsRow = true := by
 unfold joinedFacts
 simp only [Bool.and_eq_true]
 and_intros
 all_goals (first | (with_reducible exact jfA) | (with_reducible exact jfB) | (with_reducible exact jfC) | (with_reducible exact jfD) | (as_aux_lemma => kernel_rfl))
theorem row : Rows.MemoryKeepsSaid :=
 OpenClaim.holds_of_wide 3 Tryz.f3 rfl rfl rfl rfl rfl rfl rfl ⟨rfl, rfl, rfl, rfl, rfl⟩ rfl rfl rfl rfl rfl (by kernel_rfl) Tryz.func3 joined
  (of_decide_eq_true (by kernel_rfl)) (by unfold Func.isWrapper; first | (rw [if_pos (by decide +kernel)]; kernel_rfl) | (rw [if_neg (by decide +kernel)]; exact ⟨rfl, rfl⟩))
  (fun os started H enc _ => lifted os started H enc)
theorem proved : Rows.MemoryKeepsCardSaid :=
 Claim7.holds_tied_plain_at .later [] [.handle] true _ true row (fun _ h => by cases h) (by kernel_rfl) (fun _ h => by cases h) memoryKeeps_row_tie rfl ⟨rfl, rfl⟩ (by kernel_rfl) rfl
  (fun f fn hf hfn => by
   obtain rfl : f = 3 := Option.some.inj ((show Tryz.prog.funcNamed "sacristan/sacristanlaw09.MemoryKeeps" = some 3 by kernel_rfl).symm.trans hf) |>.symm
   obtain rfl : fn = Tryz.f3 := (Option.some.inj (Tryz.func3.symm.trans hfn)).symm
   refine ⟨by kernel_rfl, fun j t ht => ?_⟩
   have hall : (Tryz.f3.params.toList.all fun t => !(Tryz.prog.wantsStandIn t)) = true := by kernel_rfl
   have hm : t ∈ Tryz.f3.params.toList := by
    rw [Array.mem_toList_iff]
    exact Array.mem_of_getElem? ht
   have h1 := List.all_eq_true.1 hall t hm
   exact (show Tryz.prog.wantsStandIn t = false by simpa using h1))
  (by kernel_rfl)
end Go.Proofs.YtcehkafddlfleaaGreatDoor.memoryKeeps
