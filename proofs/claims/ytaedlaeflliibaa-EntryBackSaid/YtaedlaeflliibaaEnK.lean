/- Entries that are put and dropped, over lists: they rise, each once; in whatever order they are put they stand alike. -/
import Derived.Test.YtaedlaeflliibaaEnW
namespace Go.Proofs.Ytaedlaeflliibaa
open Go.RowKit Go.Deep

theorem hasE_iff {l : List En} {n : List UInt8} : hasE l n = true ↔ ∃ x ∈ l, x.1 = n := by
  unfold hasE
  rw [List.any_eq_true]
  constructor
  · rintro ⟨x, hx, h⟩; exact ⟨x, hx, eq_of_beq h⟩
  · rintro ⟨x, hx, h⟩; exact ⟨x, hx, by simpa using h⟩
theorem hasE_no {l : List En} {n : List UInt8} : hasE l n = false ↔ ∀ x ∈ l, x.1 ≠ n := by
  constructor
  · intro h x hx e
    rw [hasE_iff.2 ⟨x, hx, e⟩] at h; cases h
  · intro h
    cases e : hasE l n with
    | false => rfl
    | true => obtain ⟨x, hx, e2⟩ := hasE_iff.1 e; exact absurd e2 (h x hx)
theorem Up.names {l : List En} (h : Up l) : l.Pairwise fun a b => a.1 ≠ b.1 := List.Pairwise.imp (R := fun a b : En => a.1 < b.1) (fun {a b} hlt e => by rw [e] at hlt; exact u8lt_irrefl _ hlt) h
theorem putE_perm (l : List En) (x : En) : (putE l x).Perm (x :: l) := by
  unfold putE
  refine List.Perm.trans (List.perm_append_comm_assoc _ _ _) ?_
  rw [List.singleton_append, List.take_append_drop]
theorem putE_len (l : List En) (x : En) : (putE l x).length = l.length + 1 := by
  have := (putE_perm l x).length_eq
  simpa using this
theorem up_putE {l : List En} {x : En} (h : Up l) (hn : hasE l x.1 = false) : Up (putE l x) := by
  have hno := hasE_no.1 hn
  have hle := aboveE_le l x.1
  unfold putE
  refine List.pairwise_append.2 ⟨List.Pairwise.sublist (List.take_sublist _ _) h, List.pairwise_append.2 ⟨List.pairwise_singleton _ _, List.Pairwise.sublist (List.drop_sublist _ _) h, ?_⟩, ?_⟩
  · intro a ha b hb
    rw [List.mem_singleton.1 ha]
    obtain ⟨j, hj, rfl⟩ := List.getElem_of_mem hb
    rw [List.getElem_drop]
    have hj' : aboveE l x.1 + j < l.length := by simp at hj; omega
    have h0 : aboveE l x.1 < l.length := by omega
    have h1 := above_yes (x := x) rfl h0
    by_cases e : j = 0
    · subst e; exact h1
    · exact u8lt_trans h1 (h.at (by omega) hj')
  · intro a ha b hb
    obtain ⟨i, hi, rfl⟩ := List.getElem_of_mem ha
    rw [List.getElem_take]
    have hi' : i < aboveE l x.1 ∧ i < l.length := by simp at hi; omega
    have h1 := above_no (x := x) hi'.1 hi'.2
    have h2 : l[i].1 < x.1 := u8lt_tri h1 (fun e => hno _ (List.getElem_mem hi'.2) e.symm)
    rcases List.mem_append.1 hb with hb | hb
    · rw [List.mem_singleton.1 hb]; exact h2
    · obtain ⟨j, hj, rfl⟩ := List.getElem_of_mem hb
      rw [List.getElem_drop]
      exact h.at (by omega) (by simp at hj; omega)
theorem dropE_perm {l : List En} {n : List UInt8} (h : idxE l n < l.length) : l.Perm (l[idxE l n] :: dropE l n) := by
  unfold dropE
  have e : l = l.take (idxE l n) ++ (l[idxE l n] :: l.drop (idxE l n + 1)) := by
    rw [← List.drop_eq_getElem_cons h, List.take_append_drop]
  conv => lhs; rw [e]
  exact List.perm_middle
theorem up_dropE {l : List En} (n : List UInt8) (h : Up l) : Up (dropE l n) := by
  rw [dropE_erase]
  exact List.Pairwise.sublist (List.eraseIdx_sublist _ _) h
theorem has_dropE {l : List En} {n : List UInt8} (h : Up l) : hasE (dropE l n) n = false := by
  cases hq : hasE l n with
  | false => rw [dropE_none hq]; exact hq
  | true =>
    have hi := idxE_lt.2 hq
    have hp := dropE_perm hi
    have hd : (l[idxE l n] :: dropE l n).Pairwise fun a b => a.1 ≠ b.1 := (hp.pairwise_iff (fun {a b} (hab : a.1 ≠ b.1) => Ne.symm hab)).1 h.names
    refine hasE_no.2 fun x hx e => ?_
    have := (List.pairwise_cons.1 hd).1 x hx
    rw [idxE_name hi, e] at this
    exact this rfl
theorem dropE_len {l : List En} {n : List UInt8} (h : hasE l n = true) : (dropE l n).length + 1 = l.length := by
  have := (dropE_perm (idxE_lt.2 h)).length_eq
  simpa using this.symm
theorem up_perm {a b : List En} (ha : Up a) (hb : Up b) (h : a.Perm b) : a = b :=
  List.Perm.eq_of_pairwise (le := fun a b : En => a.1 < b.1) (fun _ _ _ _ h1 h2 => absurd (u8lt_trans h1 h2) (u8lt_irrefl _)) ha hb h
theorem find_putE {l : List En} {x : En} (h : Up l) (hn : hasE l x.1 = false) : findE (putE l x) x.1 = (x.2, true) := by
  have hu := up_putE h hn
  have hm : x ∈ putE l x := (putE_perm l x).mem_iff.2 (List.mem_cons_self ..)
  have hq : hasE (putE l x) x.1 = true := hasE_iff.2 ⟨x, hm, rfl⟩
  have hi := idxE_lt.2 hq
  have hnm := idxE_name hi
  have he : (putE l x)[idxE (putE l x) x.1] = x := by
    obtain ⟨j, hj, e⟩ := List.getElem_of_mem hm
    by_cases hij : j = idxE (putE l x) x.1
    · subst hij; exact e
    · have hne : ∀ (i k : Nat) (hi : i < (putE l x).length) (hk : k < (putE l x).length), i < k → (putE l x)[i].1 ≠ (putE l x)[k].1 := fun i k hi hk hlt e2 => by
        have := hu.at hlt hk
        rw [e2] at this; exact u8lt_irrefl _ this
      rcases Nat.lt_or_gt_of_ne hij with h1 | h1
      · exact absurd (by rw [hnm, e]) (hne _ _ hj hi h1)
      · exact absurd (by rw [hnm, e]) (hne _ _ hi hj h1)
  unfold findE
  rw [if_pos hq, List.getD_eq_getElem?_getD, List.getElem?_eq_getElem hi, Option.getD_some, he]
theorem findE_yes {l : List En} {n : List UInt8} (h : hasE l n = true) : findE l n = ((l[idxE l n]'(idxE_lt.2 h)).2, true) := by
  unfold findE
  rw [if_pos h, List.getD_eq_getElem?_getD, List.getElem?_eq_getElem (idxE_lt.2 h), Option.getD_some]
theorem findE_no {l : List En} {n : List UInt8} (h : hasE l n = false) : findE l n = (0, false) := by
  unfold findE; rw [h]; rfl
/-- dropped, and put again -/
theorem put_dropE {l : List En} {n : List UInt8} (h : Up l) (hq : hasE l n = true) : putE (dropE l n) (n, (findE l n).1) = l := by
  have hi := idxE_lt.2 hq
  have e : ((n, (findE l n).1) : En) = l[idxE l n] := by
    rw [findE_yes hq]
    exact Prod.ext (idxE_name hi).symm rfl
  refine up_perm (up_putE (up_dropE n h) (has_dropE h)) h ?_
  refine (putE_perm _ _).trans ?_
  rw [e]
  exact (dropE_perm hi).symm
end Go.Proofs.Ytaedlaeflliibaa
