/- The contracts of the document's Find, Put, Drop. -/
import Derived.Test.YtaedlaeflliibaaEnH
namespace Go.Proofs.Ytaedlaeflliibaa
open Go.RowKit Go.Deep

theorem at_eq (l : List En) (x : List UInt8) (j : Nat) (hj : j < l.length) : ((j : Int) = if hasE l x then ((idxE l x : Nat) : Int) else -1) ↔ j = idxE l x := by
  cases h : hasE l x with
  | true => rw [if_pos rfl]; omega
  | false =>
    have h1 : ¬ idxE l x < l.length := fun h2 => by rw [idxE_lt.1 h2] at h; cases h
    have h2 : ¬ ((j : Int) = -1) := by omega
    simp [h2]; omega
theorem dropE_erase (l : List En) (x : List UInt8) : dropE l x = l.eraseIdx (idxE l x) := by
  rw [List.eraseIdx_eq_take_drop_succ]; rfl
theorem erase_snoc_lt {l : List En} {k j : Nat} (hj : j < l.length) (h : k < j) : (l.take (j + 1)).eraseIdx k = (l.take j).eraseIdx k ++ [l[j]] := by
  rw [List.take_succ_eq_append_getElem hj, List.eraseIdx_append_of_lt_length (by simp; omega)]
theorem erase_snoc_eq {l : List En} {j : Nat} (hj : j < l.length) : (l.take (j + 1)).eraseIdx j = (l.take j).eraseIdx j := by
  rw [List.take_succ_eq_append_getElem hj, List.eraseIdx_append_of_length_le (by simp; omega)]
  have e : j - (l.take j).length = 0 := by simp; omega
  rw [e, List.eraseIdx_of_length_le (l := l.take j) (by simp; omega)]; simp
theorem erase_snoc_gt {l : List En} {k j : Nat} (hj : j < l.length) (h : j < k) : (l.take (j + 1)).eraseIdx k = (l.take j).eraseIdx k ++ [l[j]] := by
  rw [List.eraseIdx_of_length_le (by simp; omega), List.eraseIdx_of_length_le (by simp; omega), List.take_succ_eq_append_getElem hj]
theorem erase_len (l : List En) (k j : Nat) : ((l.take j).eraseIdx k).length ≤ j := by
  have h1 := List.length_eraseIdx_le (l := l.take j) (i := k)
  have h2 : (l.take j).length ≤ j := by simp; omega
  omega
theorem one_news (w : World) (t : TypeId) (x : En) : ∀ ad, some (⟨w.heap.size, 0, none⟩ : Addr) = some ad → ∀ j u, (enCells [x])[j]? = some u → (w.alloc (.cells (enOne x).toArray t)).cell? (ad.add j) = some u := by
  intro ad had j u hu
  obtain rfl := Option.some.inj had
  rw [Addr.add_lit, Nat.zero_add, (Blk.new w t (enOne x)).cell? j]
  exact hu
set_option maxHeartbeats 1000000 in
theorem reffind_any (A : Option Addr) (n c : Nat) (l : List En) (nm : List UInt8) (w : World) (L : Nat) (ha : Ens w L A n c l) :
    Calls Try.prog 20 #[.slice A n c, .string ⟨nm.toArray⟩] w fun e w' => e = .returned (.tuple #[.int .i64 (findE l nm).1, .bool (findE l nm).2]) ∧ w' = w := by
  have HI : Kp _ := ⟨ha⟩
  have HL : Kp _ := ⟨ha.len⟩
  have HC : Kp _ := ⟨at_any A n c l nm w L ha⟩
  obtain ⟨f, hf⟩ : ∃ f, f = findE l nm := ⟨_, rfl⟩
  rw [← hf]
  clear ha
  cases hq : hasE l nm with
  | false =>
    rw [hq] at HC
    have HF : Kp (f = (0, false)) := ⟨by rw [hf]; unfold findE; rw [hq]; rfl⟩
    clear hf
    go_enter Try.func20, Try.ntmps20
    go_wp2_with (go_at_call 38; refine HC.out.mono ?_; rintro e w2 ⟨rfl, rfl⟩)
    all_goals go_wp2
    all_goals go_ret2
    exact ⟨by rw [HF.out]; rfl, rfl⟩
  | true =>
    rw [hq] at HC
    have hi := idxE_lt.2 hq
    have HF : Kp (f = (l[idxE l nm].2, true)) := ⟨by rw [hf]; unfold findE; rw [if_pos hq, List.getD_eq_getElem?_getD, List.getElem?_eq_getElem hi]; rfl⟩
    have hin : idxE l nm < n := by rw [HL.out] at hi; exact hi
    obtain ⟨b1, o1, rfl, hlt, c0, c1⟩ := HI.out.at hin
    generalize (l[idxE l nm]'(by have := HL.out; omega)).2 = z at *
    generalize idxE l nm = k at *
    have HC2 : Kp (Calls Try.prog 38 #[.slice (some ⟨b1, o1, none⟩) n c, .string ⟨nm.toArray⟩] w fun e w' => e = .returned (.int .i64 (k : Int)) ∧ w' = w) := ⟨by simpa using HC.out⟩
    clear hf c0 HC
    go_enter Try.func20, Try.ntmps20
    go_wp2_with (go_at_call 38; refine HC2.out.mono ?_; rintro e w2 ⟨rfl, rfl⟩)
    go_ret2
    exact ⟨by rw [HF.out]; rfl, rfl⟩
set_option maxRecDepth 100000 in
set_option maxHeartbeats 2000000 in
theorem refdrop_any (A : Option Addr) (n c : Nat) (l : List En) (nm : List UInt8) (w : World) (ha : Ens w w.heap.size A n c l) (hn : n ≤ 5864062014805) :
    Calls Try.prog 24 #[.slice A n c, .string ⟨nm.toArray⟩] w fun e w' => ∃ A' n' c', e = .returned (.tuple #[.slice A' n' c', .bool (hasE l nm)]) ∧ Ens w' w'.heap.size A' n' c' (dropE l nm) ∧ Below w.heap.size w w' := by
  have HI : Kp _ := ⟨ha⟩
  have HL : Kp _ := ⟨ha.len⟩
  have HC : Kp _ := ⟨at_any A n c l nm w w.heap.size ha⟩
  have HE : Kp _ := ⟨at_eq l nm⟩
  have hle := ha.le
  have HB : Kp (decide (0 ≤ if hasE l nm then ((idxE l nm : Nat) : Int) else -1) = hasE l nm) := ⟨by
    cases hasE l nm with
    | true => simp
    | false => simp⟩
  rw [dropE_erase]
  clear ha
  obtain ⟨kI, hkI⟩ : ∃ kI, kI = if hasE l nm then ((idxE l nm : Nat) : Int) else -1 := ⟨_, rfl⟩
  rw [← hkI] at HC HE HB
  have HL0 : Kp (∀ x ∈ l.eraseIdx (idxE l nm), EnOk x) := ⟨fun x hx => HI.out.ok x (List.mem_of_mem_eraseIdx hx)⟩
  generalize idxE l nm = k at *
  clear hkI
  go_enter Try.func24, Try.ntmps24
  go_wp2_with (go_at_call 38; refine HC.out.mono ?_; rintro e w2 ⟨rfl, rfl⟩)
  go_loopg [7, 8] n (fun gk v s8 wr => ∃ j : Nat, j + gk = n ∧ s8 = .int .i64 j ∧ Kp (wr.ownsRow w2.heap.size 39 2 v ((l.take j).eraseIdx k).length (enCells ((l.take j).eraseIdx k))) ∧ Kp (Below w2.heap.size w2 wr))
  case atStart => exact ⟨0, by omega, rfl, ⟨own2E_nil _ _ _⟩, ⟨Below.refl _ _⟩⟩
  case round =>
    obtain ⟨j, hjg, rfl, HO, HW⟩ := hrel
    cases gk with
    | zero =>
      have hend : ¬ ((j : Int) < (n : Int)) := by omega
      have hjn : (l.take j) = l := List.take_of_length_le (by have := HL.out; omega)
      rw [hjn] at HO
      obtain ⟨A9, c9, rfl, h9⟩ := Ens.of_own HO.out HL0.out
      have H9 : Kp _ := ⟨h9⟩
      clear h9 HO
      go_wp2
      go_ret2
      exact ⟨_, _, _, by rw [← HB.out]; rfl, H9.out, HW.out⟩
    | succ g2 =>
      have hlt : j < n := by omega
      have hgo : (j : Int) < (n : Int) := by omega
      have hjl : j < l.length := by rw [HL.out]; exact hlt
      have HEj : Kp _ := ⟨HE.out j hjl⟩
      by_cases hjk : j = k
      · subst hjk
        have hne : ((j : Int) != kI) = false := by rw [HEj.out.2 rfl]; simp
        have HO2 : Kp (wr.ownsRow w2.heap.size 39 2 u7 ((l.take (j + 1)).eraseIdx j).length (enCells ((l.take (j + 1)).eraseIdx j))) := ⟨by rw [erase_snoc_eq hjl]; exact HO.out⟩
        clear HO
        go_wp2
        go_roundg g2
        case measure => omega
        case rel => exact ⟨j + 1, by omega, by go_num, HO2, HW⟩
      · have hne : ((j : Int) != kI) = true := by
          simp only [bne_iff_ne, ne_eq]
          exact fun e => hjk (HEj.out.1 e)
        obtain ⟨b1, o1, rfl, _, c0, c1⟩ := (HI.out.below HW.out).at hlt
        have HS : Kp ((l.take (j + 1)).eraseIdx k = (l.take j).eraseIdx k ++ [l[j]]) := ⟨by
          rcases Nat.lt_or_gt_of_ne hjk with h | h
          · exact erase_snoc_gt hjl h
          · exact erase_snoc_lt hjl h⟩
        have hel := erase_len l k j
        obtain ⟨⟨xn, z⟩, hx⟩ : ∃ x, l[j] = x := ⟨_, rfl⟩
        rw [hx] at c0 c1 HS
        simp only at c0 c1
        clear hx
        generalize (l.take j).eraseIdx k = R at *
        go_wp2_with (first
          | (refine wpList_buildEn rfl _ rfl (xn, z) rfl ?_
             have HW3 : Kp (Below w2.heap.size w2 (wr.alloc (.cells (enOne (xn, z)).toArray 39))) := ⟨HW.out.alloc HW.out.size _⟩
             have HO3 : Kp _ := ⟨own2_below HO.out ((Below.refl _ _).alloc (Nat.le_refl _) (.cells (enOne (xn, z)).toArray 39))⟩
             have HNw : Kp _ := ⟨one_news wr 39 (xn, z)⟩
             clear HO c0 c1
             generalize wr.alloc (.cells (enOne (xn, z)).toArray 39) = w4 at *)
          | (at_builtin; refine wpList_appE rfl _ _ rfl w2.heap.size _ R.length R rfl HO3.out (some ⟨wr.heap.size, 0, none⟩) 1 1 [(xn, z)] rfl rfl (fun h => by cases h) HNw.out (by omega) HW3.out.size ?_))
        intro v' w5 hown' hb' _
        have HO5 : Kp (w5.ownsRow w2.heap.size 39 2 v' ((l.take (j + 1)).eraseIdx k).length (enCells ((l.take (j + 1)).eraseIdx k))) := ⟨by
          rw [HS.out, List.length_append]; exact hown'⟩
        have HW5 : Kp (Below w2.heap.size w2 w5) := ⟨HW3.out.trans hb'⟩
        clear hown' hb' HO3 HNw HW3
        go_wp2
        go_roundg g2
        case measure => omega
        case rel => exact ⟨j + 1, by omega, by go_num, HO5, HW5⟩
end Go.Proofs.Ytaedlaeflliibaa
