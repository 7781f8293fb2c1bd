/- Arrays of bytes that came in by value: opened, and read again in any world. No program is named here. -/
import Derived.Test.YtjllfaeamjadcaaOpen
namespace Go.Proofs.Ytjllfaeamjadcaa
open Go.ChangeShapes Go.WideShapes Go.ChangeAt Go.RowKit Go.Deep

theorem mapM_carry {β : Type} {f g : Nat → Option β} : ∀ (L : List Nat) (xs : List β), L.mapM f = some xs → (∀ i ∈ L, ∀ y, f i = some y → g i = some y) → L.mapM g = some xs
  | [], xs, h, _ => by simpa using h
  | i :: L, xs, h, hfg => by
    rw [List.mapM_cons] at h ⊢
    simp only [bind, Option.bind_eq_some_iff, pure, Option.some.injEq] at h ⊢
    obtain ⟨y, hy, ys, hys, rfl⟩ := h
    exact ⟨y, hfg i (by simp) y hy, ys, mapM_carry L ys hys (fun j hj => hfg j (by simp [hj])), rfl⟩
def byteAt : Option Value → UInt8
  | some (.int _ z) => UInt8.ofNat z.toNat
  | _ => 0
section
variable {H : Type} {enc : TypeId × Value → H} {P : Program} {w w' : World} {base base' : Nat} {sp sp' : Nat → Bool} {held held' : Bool} {t e : TypeId}
/-- an array of numbers reads alike in every world -/
theorem trod_arr_any {n : Nat} {k : IntKind} {cs : List Value} {x : DataW H × List MemPlace} {fuel : Nat} (ht : P.underlying t = some (.array n e)) (he : P.underlying e = some (.int k))
    (h : DataW.trod enc P w base sp held fuel t cs = some x) : DataW.trod enc P w' base' sp' held' fuel t cs = some x := by
  cases fuel with
  | zero => simp [DataW.trod] at h
  | succ m =>
    unfold DataW.trod at h ⊢
    rw [ht] at h ⊢
    split at h <;> simp_all
    obtain ⟨xs, hm, rfl⟩ := h.2
    refine ⟨xs, mapM_carry _ _ hm fun i _ y hy => ?_, rfl⟩
    obtain ⟨z, e1, e2, hw⟩ := DataW.trod_int he hy
    rw [e1, e2]
    cases m with
    | zero => simp [DataW.trod] at hy
    | succ m => exact trod_int_mk m he hw
theorem arr_places : ∀ (xs : List (DataW H × List MemPlace)), (∀ y ∈ xs, y.2 = []) → xs.flatMap (·.2) = []
  | [], _ => rfl
  | y :: ys, h => by
    rw [List.flatMap_cons, h y (by simp), arr_places ys (fun z hz => h z (by simp [hz]))]; rfl
/-- an array of bytes by value, opened -/
theorem arr_open {n : Nat} {r : Reach} {b0 : Nat} {v : Value} {d : DataW H} {ps : List MemPlace} (ht : P.underlying t = some (.array n e)) (he : P.underlying e = some (.int .u8)) (hc : P.cellsOf e = 1) (hct : P.cellsOf t = n)
    (hval : Value.okWide P w r b0 t v) (hd : DataW.Trod enc P w base sp held t v d ps) :
    ∃ l : List UInt8, l.length = n ∧ v = .agg (cells8 l).toArray ∧ ps = [] ∧ ∀ (w' : World) (base' : Nat) (sp' : Nat → Bool) (held' : Bool), DataW.Trod enc P w' base' sp' held' t v d [] := by
  obtain ⟨cs, rfl, hs, _⟩ : ∃ cs, v = .agg cs ∧ cs.size = P.cellsOf t ∧ Row.okWide P w r b0 t cs := by
    have h := hval
    unfold Value.okWide at h
    rw [ht] at h
    exact h
  rw [hct] at hs
  obtain ⟨fuel, hf⟩ := hd
  obtain ⟨xs, m, _, ex, hlen, hl, hel⟩ := DataW.trod_array ht hf
  obtain ⟨cl⟩ := cs
  have hs2 : cl.length = n := by simpa using hs
  have hcs : (Value.agg ⟨cl⟩).cells.toList = cl := by simp [Value.cells]
  rw [hcs] at hel hf
  have each : ∀ i (hi : i < n), ∃ z, cl[i]? = some (.int .u8 z) ∧ (Lit.int .u8 z).wf = true ∧ xs[i]? = some (.lit (.int .u8 z), []) := by
    intro i hi
    have h := hel i hi
    rw [hc, Nat.mul_one] at h
    have hxi : xs[i]? = some (xs[i]'(by omega)) := List.getElem?_eq_getElem (by omega)
    rw [hxi] at h
    obtain ⟨z, e1, e2, hw⟩ := DataW.trod_int he h
    refine ⟨z, ?_, hw, by rw [hxi, e2]⟩
    have e3 : ((cl.drop i).take 1)[0]? = some (.int .u8 z) := by rw [e1]; rfl
    rw [List.getElem?_take, if_pos (by omega), List.getElem?_drop] at e3
    exact e3
  have hps : ps = [] := by
    have h2 := (Prod.mk.inj ex).2
    rw [h2]
    refine arr_places xs fun y hy => ?_
    obtain ⟨i, hi, rfl⟩ := List.getElem_of_mem hy
    obtain ⟨z, _, _, h3⟩ := each i (by omega)
    rw [List.getElem?_eq_getElem hi] at h3
    rw [Option.some.inj h3]
  refine ⟨(List.range n).map fun i => byteAt cl[i]?, by simp, ?_, hps, fun w' base' sp' held' => ⟨fuel, ?_⟩⟩
  · congr 1
    refine congrArg _ (List.ext_getElem? fun i => ?_)
    by_cases hi : i < n
    · obtain ⟨z, e1, hw, _⟩ := each i hi
      unfold cells8
      rw [List.map_map, List.getElem?_map, List.getElem?_range hi, e1]
      simp only [Option.map_some, Function.comp, e1, byteAt, byte_back hw]
    · rw [List.getElem?_eq_none (by omega), List.getElem?_eq_none (by rw [cells8_length]; simp; omega)]
  · rw [hcs, ← hps]
    exact trod_arr_any ht he hf
end
end Go.Proofs.Ytjllfaeamjadcaa
