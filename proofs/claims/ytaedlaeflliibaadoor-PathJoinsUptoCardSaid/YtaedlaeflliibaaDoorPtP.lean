/- Chapter 15's answers over lists: the parts of a text, names that are kept, texts of names. No program is named here. -/
import Derived.Test.YtaedlaeflliibaaDoorNmP
import Derived.Lib.Join
import Derived.Lib.IndexLaws
namespace Go.Proofs.YtaedlaeflliibaaDoor
open Go.RowKit

abbrev Nm := List UInt8
/-- the parts between slashes -/
def splitS : Nm → List Nm
  | [] => [[]]
  | c :: t => if c = 47 then [] :: splitS t else
    match splitS t with
    | [] => [[c]]
    | h :: r => (c :: h) :: r
/-- what stands ahead goes on in the first part -/
def contL (p : Nm) : List Nm → List Nm
  | [] => [p]
  | h :: r => (p ++ h) :: r
def keepP (x : Nm) : Bool := !(x == []) && !(x == dotL)
def badP (x : Nm) : Bool := keepP x && !(x == dotsL) && !okNm x
/-- may a text be a path? -/
def okS (s : Nm) : Bool := decide (1 ≤ s.length) && decide (s.length ≤ 200) && !((splitS s).any badP)
def slashS (s : Nm) : Bool := s.head? == some 47
def absS (s : Nm) : Bool := okS s && slashS s
def namS (s : Nm) : List Nm := if okS s then (splitS s).filter keepP else []
def errS (s : Nm) : Int := if okS s then 0 else 11
/-- a text of names -/
def joinP (l : List Nm) : Nm := Lib.join l [47]
def printA (b : Bool) (l : List Nm) : Nm := if b then 47 :: joinP l else if joinP l = [] then dotL else joinP l

theorem split_ne : ∀ s, splitS s ≠ []
  | [] => by simp [splitS]
  | c :: t => by
    unfold splitS
    split
    · simp
    · split <;> simp
theorem split_slash (t : Nm) : splitS (47 :: t) = [] :: splitS t := by rw [splitS]; rw [if_pos rfl]
theorem split_cont (c : UInt8) (t : Nm) (h : c ≠ 47) : splitS (c :: t) = contL [c] (splitS t) := by
  rw [splitS, if_neg h]
  cases hs : splitS t with
  | nil => rfl
  | cons a r => rfl
theorem cont_nil {l : List Nm} (h : l ≠ []) : contL [] l = l := by
  cases l with
  | nil => exact absurd rfl h
  | cons a r => rfl
theorem cont_cont (p q : Nm) {l : List Nm} (h : l ≠ []) : contL p (contL q l) = contL (p ++ q) l := by
  cases l with
  | nil => exact absurd rfl h
  | cons a r => simp [contL]
theorem cont_ne (p : Nm) (l : List Nm) : contL p l ≠ [] := by cases l <;> simp [contL]
theorem cont_app (p : Nm) {l : List Nm} (m : List Nm) (h : l ≠ []) : contL p l ++ m = contL p (l ++ m) := by
  cases l with
  | nil => exact absurd rfl h
  | cons a r => rfl
theorem split_app (a b : Nm) : splitS (a ++ 47 :: b) = splitS a ++ splitS b := by
  induction a with
  | nil => rw [List.nil_append, split_slash]; rfl
  | cons c t ih =>
    rw [List.cons_append]
    by_cases h : c = 47
    · subst h; rw [split_slash, split_slash, ih]; rfl
    · rw [split_cont _ _ h, split_cont _ _ h, ih, cont_app _ _ (split_ne t)]
theorem split_no (s : Nm) (h : (47 : UInt8) ∉ s) : splitS s = [s] := by
  induction s with
  | nil => rfl
  | cons c t ih =>
    have h1 : c ≠ 47 := fun e => h (by rw [e]; exact List.mem_cons_self)
    rw [split_cont _ _ h1, ih (fun e => h (List.mem_cons_of_mem _ e))]
    rfl
theorem split_at (a b : Nm) (h : (47 : UInt8) ∉ a) : splitS (a ++ 47 :: b) = a :: splitS b := by rw [split_app, split_no a h]; rfl
theorem split_part (s : Nm) : ∀ x ∈ splitS s, (47 : UInt8) ∉ x := by
  induction s with
  | nil => intro x hx; simp [splitS] at hx; subst hx; simp
  | cons c t ih =>
    by_cases h : c = 47
    · subst h
      rw [split_slash]
      intro x hx
      rcases List.mem_cons.1 hx with rfl | hx
      · simp
      · exact ih x hx
    · rw [split_cont _ _ h]
      cases hs : splitS t with
      | nil => exact absurd hs (split_ne t)
      | cons a r =>
        rw [hs] at ih
        intro x hx
        simp only [contL, List.mem_cons] at hx
        rcases hx with rfl | hx
        · have := ih a List.mem_cons_self
          simp only [List.singleton_append, List.mem_cons, not_or]
          exact ⟨fun e => h e.symm, this⟩
        · exact ih x (List.mem_cons_of_mem _ hx)
theorem joinP_nil : joinP [] = [] := rfl
theorem joinP_one (x : Nm) : joinP [x] = x := Lib.join_one x _
theorem joinP_cons (x y : Nm) (r : List Nm) : joinP (x :: y :: r) = x ++ 47 :: joinP (y :: r) := by
  unfold joinP
  rw [Lib.join_cons, Lib.join_cons]
  simp [Lib.joinTail]
theorem joinP_snoc : ∀ (l : List Nm) (x : Nm), l ≠ [] → joinP (l ++ [x]) = joinP l ++ 47 :: x
  | [], _, h => absurd rfl h
  | [a], x, _ => by rw [List.singleton_append, joinP_cons, joinP_one, joinP_one]
  | a :: b :: r, x, _ => by
    have ih := joinP_snoc (b :: r) x (by simp)
    rw [List.cons_append, List.cons_append, joinP_cons, joinP_cons, ← List.cons_append, ih]
    simp
theorem split_join : ∀ (l : List Nm), l ≠ [] → (∀ x ∈ l, (47 : UInt8) ∉ x) → splitS (joinP l) = l
  | [], h, _ => absurd rfl h
  | [a], _, h => by rw [joinP_one]; exact split_no a (h a List.mem_cons_self)
  | a :: b :: r, _, h => by
    rw [joinP_cons, split_at _ _ (h a List.mem_cons_self), split_join (b :: r) (by simp) (fun x hx => h x (List.mem_cons_of_mem _ hx))]
/-- how many bytes names have, each with a slash -/
def longN (l : List Nm) : Nat := (l.map fun x => x.length + 1).sum
theorem longN_nil : longN [] = 0 := rfl
theorem longN_cons (x : Nm) (l : List Nm) : longN (x :: l) = x.length + 1 + longN l := by simp [longN]
theorem longN_app (l m : List Nm) : longN (l ++ m) = longN l + longN m := by simp [longN]
theorem longN_filter (p : Nm → Bool) : ∀ l : List Nm, longN (l.filter p) ≤ longN l
  | [] => Nat.le_refl _
  | x :: l => by
    have ih := longN_filter p l
    rw [List.filter_cons]
    split
    · rw [longN_cons, longN_cons]; omega
    · rw [longN_cons]; omega
theorem longN_count : ∀ l : List Nm, l.length ≤ longN l
  | [] => Nat.le_refl _
  | x :: l => by rw [longN_cons, List.length_cons]; have := longN_count l; omega
theorem longN_mem : ∀ (l : List Nm) (x : Nm), x ∈ l → x.length + 1 ≤ longN l
  | y :: l, x, h => by
    rw [longN_cons]
    rcases List.mem_cons.1 h with rfl | h
    · omega
    · have := longN_mem l x h; omega
theorem longN_split (s : Nm) : longN (splitS s) = s.length + 1 := by
  induction s with
  | nil => rfl
  | cons c t ih =>
    by_cases h : c = 47
    · subst h; rw [split_slash, longN_cons, ih]; simp; omega
    · rw [split_cont _ _ h]
      cases hs : splitS t with
      | nil => exact absurd hs (split_ne t)
      | cons a r =>
        rw [hs, longN_cons] at ih
        simp only [contL, longN_cons, List.length_append, List.length_cons, List.length_nil] at ih ⊢
        omega
theorem joinP_length : ∀ l : List Nm, l ≠ [] → (joinP l).length + 1 = longN l
  | [], h => absurd rfl h
  | [a], _ => by rw [joinP_one, longN_cons]; rfl
  | a :: b :: r, _ => by
    have ih := joinP_length (b :: r) (by simp)
    rw [joinP_cons, longN_cons, ← ih]
    simp; omega
theorem joinP_le (l : List Nm) : (joinP l).length ≤ longN l := by
  by_cases h : l = []
  · subst h; exact Nat.le_refl _
  · have := joinP_length l h; omega
theorem namS_ok {s : Nm} (h : okS s = true) : namS s = (splitS s).filter keepP := by rw [namS, if_pos h]
theorem namS_no {s : Nm} (h : okS s = false) : namS s = [] := by rw [namS, if_neg (by rw [h]; simp)]
theorem absS_ok {s : Nm} (h : okS s = true) : absS s = slashS s := by rw [absS, h]; rfl
theorem absS_no {s : Nm} (h : okS s = false) : absS s = false := by rw [absS, h]; rfl
theorem errS_ok {s : Nm} (h : okS s = true) : errS s = 0 := by rw [errS, if_pos h]
theorem errS_no {s : Nm} (h : okS s = false) : errS s = 11 := by rw [errS, if_neg (by rw [h]; simp)]
theorem okS_len {s : Nm} (h : okS s = true) : 1 ≤ s.length ∧ s.length ≤ 200 := by
  unfold okS at h
  simp only [Bool.and_eq_true, decide_eq_true_eq] at h
  exact h.1
theorem okS_bad {s : Nm} (h : okS s = true) : ∀ x ∈ splitS s, badP x = false := by
  unfold okS at h
  simp only [Bool.and_eq_true, Bool.not_eq_true'] at h
  intro x hx
  cases hb : badP x with
  | false => rfl
  | true => rw [List.any_eq_true.2 ⟨x, hx, hb⟩] at h; exact absurd h.2 (by simp)
theorem okS_of {s : Nm} (h1 : 1 ≤ s.length) (h2 : s.length ≤ 200) (h : ∀ x ∈ splitS s, badP x = false) : okS s = true := by
  unfold okS
  have : (splitS s).any badP = false := by
    cases hb : (splitS s).any badP with
    | false => rfl
    | true => obtain ⟨x, hx, hb⟩ := List.any_eq_true.1 hb; rw [h x hx] at hb; cases hb
  rw [decide_eq_true h1, decide_eq_true h2, this]; rfl
theorem okS_short {s : Nm} (h : s.length < 1) : okS s = false := by unfold okS; rw [decide_eq_false (by omega)]; rfl
theorem okS_long {s : Nm} (h : 200 < s.length) : okS s = false := by unfold okS; rw [decide_eq_false (by omega : ¬ s.length ≤ 200), Bool.and_false]; rfl
theorem okS_mem {s x : Nm} (hx : x ∈ splitS s) (h : badP x = true) : okS s = false := by
  unfold okS
  rw [List.any_eq_true.2 ⟨x, hx, h⟩]
  simp
/-- a name of a path -/
theorem keep_name {x : Nm} (hk : keepP x = true) (hb : badP x = false) : x = dotsL ∨ okNm x = true := by
  unfold badP at hb
  rw [hk] at hb
  by_cases h : x = dotsL
  · exact .inl h
  · right
    have h2 : (x == dotsL) = false := by simpa using h
    rw [h2] at hb
    simpa using hb
theorem keep_ne {x : Nm} (hk : keepP x = true) : x ≠ [] := by
  intro e; subst e; simp [keepP] at hk
theorem okNm_slash {x : Nm} (h : okNm x = true) : (47 : UInt8) ∉ x := by
  intro hm
  unfold okNm at h
  rw [List.any_eq_true.2 ⟨47, hm, by decide⟩] at h
  simp at h
theorem okNm_keep {x : Nm} (h : okNm x = true) : keepP x = true := by
  unfold okNm at h
  simp only [Bool.and_eq_true, decide_eq_true_eq, Bool.not_eq_true'] at h
  unfold keepP
  have h1 : (x == []) = false := by
    cases x with
    | nil => have := h.1.1.1.2; simp at this
    | cons _ _ => rfl
  rw [h1, h.1.2]; rfl
theorem okNm_bad' {x : Nm} (h : okNm x = true) : badP x = false := by unfold badP; rw [h]; simp
theorem nam_mem {s : Nm} {x : Nm} (h : x ∈ namS s) : keepP x = true ∧ (x = dotsL ∨ okNm x = true) ∧ (47 : UInt8) ∉ x ∧ x.length ≤ 200 := by
  cases ho : okS s with
  | false => rw [namS_no ho] at h; cases h
  | true =>
    rw [namS_ok ho] at h
    obtain ⟨h1, h2⟩ := List.mem_filter.1 h
    refine ⟨h2, keep_name h2 (okS_bad ho x h1), split_part s x h1, ?_⟩
    have h3 := longN_mem _ x h1
    rw [longN_split] at h3
    have := okS_len ho
    omega
theorem nam_long {s : Nm} (h : okS s = true) : longN (namS s) ≤ s.length + 1 := by
  rw [namS_ok h, ← longN_split]; exact longN_filter _ _
theorem filter_self {l : List Nm} (h : ∀ x ∈ l, keepP x = true) : l.filter keepP = l := List.filter_eq_self.2 h
/-- names of a path, as a text: is that a path, and which? -/
theorem print_back (b : Bool) (l : List Nm) (hk : ∀ x ∈ l, keepP x = true) (hb : ∀ x ∈ l, badP x = false) (hs : ∀ x ∈ l, (47 : UInt8) ∉ x) (hn : longN l ≤ 150) :
    okS (printA b l) = true ∧ namS (printA b l) = l ∧ absS (printA b l) = b := by
  have hlen := joinP_le l
  cases b with
  | true =>
    have e : printA true l = 47 :: joinP l := rfl
    rw [e]
    by_cases h : l = []
    · subst h; decide
    · have hsp : splitS (47 :: joinP l) = [] :: l := by rw [split_slash, split_join l h hs]
      have ho : okS (47 :: joinP l) = true := okS_of (by simp) (by simp; omega) (by
        rw [hsp]
        intro x hx
        rcases List.mem_cons.1 hx with rfl | hx
        · decide
        · exact hb x hx)
      refine ⟨ho, ?_, ?_⟩
      · rw [namS_ok ho, hsp, List.filter_cons, if_neg (by decide), filter_self hk]
      · rw [absS_ok ho]; rfl
  | false =>
    by_cases h : l = []
    · subst h; decide
    · obtain ⟨a, r, rfl⟩ : ∃ a r, l = a :: r := by cases l with | nil => exact absurd rfl h | cons a r => exact ⟨a, r, rfl⟩
      have ha := keep_ne (hk a List.mem_cons_self)
      obtain ⟨c, t, rfl⟩ : ∃ c t, a = c :: t := by cases a with | nil => exact absurd rfl ha | cons c t => exact ⟨c, t, rfl⟩
      have hc : c ≠ 47 := fun e => hs _ List.mem_cons_self (by rw [e]; exact List.mem_cons_self)
      have hj : ∃ u, joinP ((c :: t) :: r) = c :: u := by
        cases r with
        | nil => exact ⟨t, joinP_one _⟩
        | cons y r => exact ⟨_, by rw [joinP_cons]; rfl⟩
      obtain ⟨u, hu⟩ := hj
      have hsp := split_join _ h hs
      have e : printA false ((c :: t) :: r) = joinP ((c :: t) :: r) := by
        unfold printA
        rw [if_neg (by simp), if_neg (by rw [hu]; simp)]
      rw [e]
      have ho : okS (joinP ((c :: t) :: r)) = true := okS_of (by rw [hu]; simp) (by omega) (by rw [hsp]; exact hb)
      refine ⟨ho, ?_, ?_⟩
      · rw [namS_ok ho, hsp, filter_self hk]
      · rw [absS_ok ho, hu]; simp [slashS, hc]
theorem dots_bad : badP dotsL = false := by decide
theorem name_bad {x : Nm} (h : x = dotsL ∨ okNm x = true) : badP x = false := by
  rcases h with rfl | h
  · exact dots_bad
  · exact okNm_bad' h
/-- what was parsed is parsed again as it was -/
theorem parse_print {s : Nm} (h : okS s = true) (hl : s.length ≤ 90) : okS (printA (absS s) (namS s)) = true ∧ namS (printA (absS s) (namS s)) = namS s ∧ absS (printA (absS s) (namS s)) = absS s :=
  print_back _ _ (fun x hx => (nam_mem hx).1) (fun x hx => name_bad (nam_mem hx).2.1) (fun x hx => (nam_mem hx).2.2.1) (by have := nam_long h; omega)
theorem slash_app {s : Nm} (t : Nm) (h : 1 ≤ s.length) : slashS (s ++ t) = slashS s := by
  cases s with
  | nil => simp at h
  | cons c r => rfl
/-- one text, a slash, another one -/
theorem parse_app {s t : Nm} (hs : okS s = true) (ht : ∀ x ∈ splitS t, badP x = false) (hl : s.length + 1 + t.length ≤ 200) :
    okS (s ++ 47 :: t) = true ∧ namS (s ++ 47 :: t) = namS s ++ (splitS t).filter keepP ∧ absS (s ++ 47 :: t) = absS s := by
  have h1 := okS_len hs
  have ho : okS (s ++ 47 :: t) = true := okS_of (by simp; omega) (by simp; omega) (by
    rw [split_app]
    intro x hx
    rcases List.mem_append.1 hx with hx | hx
    · exact okS_bad hs x hx
    · exact ht x hx)
  refine ⟨ho, ?_, ?_⟩
  · rw [namS_ok ho, split_app, List.filter_append, namS_ok hs]
  · rw [absS_ok ho, absS_ok hs, slash_app _ h1.1]
/-- slashes more, and dots -/
theorem parse_dots {s : Nm} (h : okS s = true) (hl : s.length ≤ 90) : okS (s ++ [47, 47, 46, 47]) = true ∧ namS (s ++ [47, 47, 46, 47]) = namS s ∧ absS (s ++ [47, 47, 46, 47]) = absS s := by
  obtain ⟨h1, h2, h3⟩ := parse_app (t := [47, 46, 47]) h (by decide) (by simp; omega)
  refine ⟨h1, ?_, h3⟩
  rw [h2, show (splitS [47, 46, 47]).filter keepP = [] by decide, List.append_nil]
theorem parse_two {s t : Nm} (hs : okS s = true) (ht : okS t = true) (h1 : s.length ≤ 90) (h2 : t.length ≤ 90) :
    okS (s ++ 47 :: t) = true ∧ namS (s ++ 47 :: t) = namS s ++ namS t ∧ absS (s ++ 47 :: t) = absS s := by
  obtain ⟨a, b, c⟩ := parse_app (t := t) hs (okS_bad ht) (by omega)
  exact ⟨a, by rw [b, namS_ok ht], c⟩
/-- a text, a slash, and what is no slash: is it a path? -/
theorem parse_odd {s o : Nm} (hs : okS s = true) (ho : (47 : UInt8) ∉ o) (hl : s.length + 1 + o.length ≤ 200) : okS (s ++ 47 :: o) = !badP o := by
  cases hb : badP o with
  | true => exact okS_mem (x := o) (by rw [split_app, split_no o ho]; simp) hb
  | false => exact (parse_app hs (by rw [split_no o ho]; intro x hx; rw [List.mem_singleton.1 hx]; exact hb) hl).1
theorem badP_iff (o : Nm) : (!badP o) = (o == [] || o == dotL || o == dotsL || okNm o) := by
  unfold badP keepP
  cases (o == []) <;> cases (o == dotL) <;> cases (o == dotsL) <;> cases okNm o <;> rfl
/-- an index of a slash -/
theorem idx_no {s : Nm} (h : Lib.indexByte s 47 = -1) : (47 : UInt8) ∉ s := by
  intro hm
  obtain ⟨k, hk⟩ := List.getElem?_of_mem hm
  exact Lib.indexByte_none h k hk
theorem idx_at {s : Nm} {o : Nat} (h : Lib.indexByte s 47 = (o : Int)) : o < s.length ∧ splitS s = s.take o :: splitS (s.drop (o + 1)) := by
  obtain ⟨h1, h2⟩ := Lib.indexByte_some h
  have ho : o < s.length := (List.getElem?_eq_some_iff.1 h1).1
  refine ⟨ho, ?_⟩
  have e : s = s.take o ++ 47 :: s.drop (o + 1) := by
    conv => lhs; rw [← List.take_append_drop o s]
    rw [List.drop_eq_getElem_cons ho, (List.getElem?_eq_some_iff.1 h1).2]
  have hn : (47 : UInt8) ∉ s.take o := by
    intro hm
    obtain ⟨k, hk⟩ := List.getElem?_of_mem hm
    have hk2 : k < o := by have := (List.getElem?_eq_some_iff.1 hk).1; simp at this; omega
    rw [List.getElem?_take, if_pos hk2] at hk
    exact h2 k hk2 hk
  conv => lhs; rw [e]
  exact split_at _ _ hn
end Go.Proofs.YtaedlaeflliibaaDoor
