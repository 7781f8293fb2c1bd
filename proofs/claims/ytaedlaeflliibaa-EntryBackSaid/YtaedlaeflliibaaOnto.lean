/- 'append' upon bytes whose row is told by its cells (so '[]byte(s)', whose row bears a mark behind its last cell). No program is named here. -/
import Derived.Test.YtaedlaeflliibaaLaws
import Derived.Deep.Upon
import Derived.Deep.MidRow
namespace Go.Proofs.Ytaedlaeflliibaa
open Go.RowKit
variable {P : Program} {t e : TypeId} {z : Value} {bytes : Nat}

theorem tape_setCells (b : Nat) : ∀ (vs : List Value) (o : Nat) (w : World), (w.setCells b o vs).tape = w.tape
  | [], _, _ => rfl
  | _ :: vs, o, _ => (tape_setCells b vs (o + 1) _).trans rfl
theorem below_setCells {w : World} {g B : Nat} (o : Nat) (vs : List Value) (hB : B ≤ g) (hg : g < w.heap.size) : Below B w (w.setCells g o vs) :=
  ⟨World.os_setCells w g o vs, tape_setCells g vs o w, World.output_setCells w g o vs, (World.keptBut_setCells g (may := fun _ => True) vs o w (fun _ _ => trivial)).size, fun k hk => World.heap_setCells_other w g o vs (by omega) (by omega)⟩
theorem Came.below {w w' : World} {g n c B : Nat} {xs : List Value} (h : Came w 1 (some ⟨g, 0, none⟩) g 0 n c xs) (hb : Below B w w') (hg : g < B) : Came w' 1 (some ⟨g, 0, none⟩) g 0 n c xs :=
  ⟨h.le, h.addr, fun h0 => Nat.lt_of_lt_of_le (h.lt h0) hb.size, h.oldsLen, fun j u hu => (hb.cell (p := ⟨g, _, none⟩) hg).trans (h.olds j u hu),
    fun j hj => ⟨by rw [hb.cell (p := ⟨g, _, none⟩) hg]; exact (h.spare j hj).1, (World.frozen?_of_block (a := ⟨g, _, none⟩) (hb.block g hg)).trans (h.spare j hj).2⟩⟩

theorem Came.bs {w : World} {g n c : Nat} {l : List UInt8} (h : Came w 1 (some ⟨g, 0, none⟩) g 0 n c (cells8 l)) (hg : g < w.heap.size) (hc : c ≤ maxLen) : Bs w w.heap.size (some ⟨g, 0, none⟩) n c l := by
  have hl : l.length = n := by have := h.oldsLen; rw [cells8_length] at this; omega
  exact ⟨hl, h.le, hc, (fun h => by cases h), fun _ => ⟨g, 0, rfl, hg, fun j hj => h.olds j _ (cells8_at l j hj)⟩⟩

theorem str_came (w : World) (l : List UInt8) (e : TypeId) (cap : Nat) (hcap : l.length ≤ cap) (hi : Nat) :
    Came (w.alloc (.cells (bytesRow ⟨l.toArray⟩ cap) e ((bytesRow ⟨l.toArray⟩ cap).size, hi))) 1 (some ⟨w.heap.size, 0, none⟩) w.heap.size 0 l.length cap (cells8 l) := by
  have hs : (bytesRow ⟨l.toArray⟩ cap).size = cap := by
    simp [bytesRow, ByteArray.size]; omega
  refine ⟨hcap, fun _ => rfl, fun _ => by simp, by rw [cells8_length]; omega, fun j u hu => ?_, fun j hj => ⟨?_, ?_⟩⟩
  · obtain ⟨hj, rfl⟩ := cells8_some hu
    rw [World.cell?_alloc_mark, Nat.zero_add, bytesRow_at _ _ _ (by simpa using hj)]
    simp
  · rw [World.cell?_alloc_mark, Array.getElem?_eq_getElem (by rw [hs]; omega)]; rfl
  · rw [World.frozen?_alloc_mark, hs]
    have : decide (cap ≤ 0 + l.length * 1 + j) = false := by rw [decide_eq_false_iff_not]; omega
    rw [this]; rfl

theorem run_app_came (E : El P t e z bytes) (ty : TypeId) {w : World} {g n c : Nat} {l : List UInt8} (h : Came w 1 (some ⟨g, 0, none⟩) g 0 n c (cells8 l)) (hg : g < w.heap.size) (hc : c ≤ maxLen)
    {L : Nat} {A : Option Addr} {m d : Nat} {l2 : List UInt8} (h2 : Bs w L A m d l2) (h0 : A ≠ none) {B : Nat} (hB : B ≤ g) (h63 : n + m ≤ maxLen) (hbytes : (n + m) * bytes ≤ 140737488355328) :
    ∃ A' c' w', (Builtin.append_ #[t, t] ty #[.slice (some ⟨g, 0, none⟩) n c, .slice A m d]).run P w = .ok (.slice A' (n + m) c') w' ∧ Bs w' w'.heap.size A' (n + m) c' (l ++ l2) ∧ Below B w w' := by
  obtain ⟨i, hi, hz0, hz1, hz2⟩ := info_parts E.info
  obtain ⟨a, rfl⟩ := Option.ne_none_iff_exists'.1 h0
  have hl : l.length = n := by have := h.oldsLen; rw [cells8_length] at this; omega
  have hlc : (cells8 l).length = n := by rw [cells8_length, hl]
  have hl2 : (cells8 l2).length = m := by rw [cells8_length, h2.len]
  have hsrc : Src P i.size t (.slice (some a) m d) m (cells8 l2) w := Src.ofSlice w E.ty a m d _ (by rw [hz1]; omega) (h2.news a rfl) (cells8_one _)
  by_cases hroom : n + m ≤ c
  · have hsp := h.spare
    have hr := run_append_room_src (P := P) w t t ty e i E.ty hi g 0 n c _ m _ hsrc hroom (fun j hj => by rw [hz1]; exact (hsp j (by omega)).1) (fun j hj => by rw [hz1]; exact (hsp j (by omega)).2)
    refine ⟨_, _, _, hr, ?_, below_setCells _ _ hB hg⟩
    rw [hz1]
    refine ⟨by simp [hl, h2.len], hroom, hc, (fun h => by cases h), fun _ => ⟨g, 0, rfl, ?_, fun j hj => ?_⟩⟩
    · exact Nat.lt_of_lt_of_le hg (below_setCells (B := B) _ _ hB hg).size
    · by_cases hjn : j < n
      · have h1 : w.rangeAt g 0 (cells8 l) := fun j u hu => h.olds j u hu
        have h3 := World.rangeAt_setCells_apart h1 g (0 + n * 1) (cells8 l2) (.inr (.inl (by omega)))
        rw [List.getElem_append_left (by omega)]
        exact h3 j _ (cells8_at l j (by omega))
      · have h3 := World.rangeAt_setCells_same w g (0 + n * 1) (cells8 l2) (fun j hj => hsp j (by omega))
        have hj2 : j - n < l2.length := by simp at hj; omega
        have h4 := h3 (j - n) _ (cells8_at l2 (j - n) hj2)
        rw [List.getElem_append_right (by omega)]
        rw [show 0 + n * 1 + (j - n) = 0 + j by omega] at h4
        simpa [hl] using h4
  · have hold : (Builtin.firstCells i.size n (.slice (some ⟨g, 0, none⟩) n c)).run P w.drew = .ok (cells8 l).toArray w.drew :=
      run_firstCells_some w.drew i.size n ⟨g, 0, none⟩ n c _ (by rw [hz1]; omega) (fun j u hu => by rw [Addr.add_lit]; exact h.olds j u hu)
    have hr := run_append_grow_src (P := P) w t t ty e i z E.ty hi hz0 (some ⟨g, 0, none⟩) n c _ hold _ m _ hsrc (by omega) (by simp only [maxLen] at h63; omega) (growslice_fits (by omega) (by rw [hz2]; exact hbytes))
    have hge := grownCap_ge w (n + m) c e
    have hcm2 : grownCap w (n + m) c e ≤ maxLen := grownCap_le_maxLen w (n + m) c e h63
    have hown : (w.drew.alloc (.cells ((cells8 l ++ cells8 l2).toArray ++ Builtin.zeroCells z.cells (grownCap w (n + m) c e - (n + m))) e)).ownsRow w.heap.size e 1 (.slice (some ⟨w.heap.size, 0, none⟩) (n + m) (grownCap w (n + m) c e)) (n + m) (cells8 (l ++ l2)) := by
      refine ⟨by rw [cells8_append]; simp; omega, .inr ⟨w.heap.size, _, _, rfl, Nat.le_refl _, heap_alloc_new w.drew _, hge, hcm2, ?_, ?_⟩⟩
      · simp only [Array.size_append, List.size_toArray, size_zeroCells, E.one, List.length_append, hlc, hl2, List.length_singleton]
        omega
      · simp only [Array.toList_append]
        rw [cells8_append, Nat.mul_one, List.take_append_of_le_length (by simp; omega), List.take_of_length_le (by simp; omega)]
    obtain ⟨A', c', e', hbs⟩ := Bs.of_own hown
    cases e'
    exact ⟨_, _, _, hr, hbs, ((Below.refl B w).drew).alloc (Nat.le_of_lt (Nat.lt_of_le_of_lt hB hg)) _⟩

section
variable {ops : Array Oper} {rest : List Oper} {o : Oper} {a : Act} {Q : Exit → Act → World → Prop} {w : World}
theorem wpList_bytesOf {src : TypeId} (hs : P.underlying src = some .string) (ht : P.underlying t = some (.slice e)) (he : P.underlying e = some (.int .u8)) (hgd : o.guard = none) (x : Operand) (hop : o.op = .convert src t x)
    {l : List UInt8} (hx : a.eval x = .string ⟨l.toArray⟩) (hm : l.length ≤ maxLen)
    (h : ∀ c w', Came w' 1 (some ⟨w.heap.size, 0, none⟩) w.heap.size 0 l.length c (cells8 l) → c ≤ maxLen → Below w.heap.size w w' → w'.heap.size = w.heap.size + 1 → wpList P ops Q rest (a.put o.dst (.slice (some ⟨w.heap.size, 0, none⟩) l.length c)) w') : wpList P ops Q (o :: rest) a w := by
  refine wpList_plain hgd fun K hK => ?_
  have hrun := run_bytes_of_string (P := P) w src t e ⟨l.toArray⟩ hs ht he
  have hsz : (⟨l.toArray⟩ : ByteArray).size = l.length := by simp [ByteArray.size]
  rw [hsz] at hrun
  unfold Oper.wp
  simp [execOp, hop, hx, hrun, Result.andThen]
  exact hK _ _ (h _ _ (str_came w.drew l e _ (grownCap_ge w l.length 0 e) _) (grownCap_le_maxLen w l.length 0 e hm) (((Below.refl _ w).drew).alloc (Nat.le_refl _) _) (by simp))

theorem wpList_bytesOf_g {src : TypeId} (hs : P.underlying src = some .string) (ht : P.underlying t = some (.slice e)) (he : P.underlying e = some (.int .u8)) (hgd : Region.wanted o (yielded ops a.tmps) = true) (x : Operand) (hop : o.op = .convert src t x)
    {l : List UInt8} (hx : a.eval x = .string ⟨l.toArray⟩) (hm : l.length ≤ maxLen)
    (h : ∀ c w', Came w' 1 (some ⟨w.heap.size, 0, none⟩) w.heap.size 0 l.length c (cells8 l) → c ≤ maxLen → Below w.heap.size w w' → w'.heap.size = w.heap.size + 1 → wpList P ops Q rest (a.put o.dst (.slice (some ⟨w.heap.size, 0, none⟩) l.length c)) w') : wpList P ops Q (o :: rest) a w := by
  refine wpList_step fun K hK => ?_
  rw [if_pos hgd]
  have hrun := run_bytes_of_string (P := P) w src t e ⟨l.toArray⟩ hs ht he
  have hsz : (⟨l.toArray⟩ : ByteArray).size = l.length := by simp [ByteArray.size]
  rw [hsz] at hrun
  unfold Oper.wp
  simp [execOp, hop, hx, hrun, Result.andThen]
  exact hK _ _ (h _ _ (str_came w.drew l e _ (grownCap_ge w l.length 0 e) _) (grownCap_le_maxLen w l.length 0 e hm) (((Below.refl _ w).drew).alloc (Nat.le_refl _) _) (by simp))

theorem wpList_app_came (E : El P t e z bytes) (hgd : o.guard = none) (s x : Operand) (ho : o.op = .call { callee := .builtin .append, args := #[s, x], argTypes := #[t, t] })
    {g n c : Nat} {l : List UInt8} (hs : a.eval s = .slice (some ⟨g, 0, none⟩) n c) (h : Came w 1 (some ⟨g, 0, none⟩) g 0 n c (cells8 l)) (hg : g < w.heap.size) (hc : c ≤ maxLen)
    {L : Nat} {A : Option Addr} {m d : Nat} {l2 : List UInt8} (hx : a.eval x = .slice A m d) (h2 : Bs w L A m d l2) (h0 : A ≠ none) (B : Nat) (hB : B ≤ g) (h63 : n + m ≤ maxLen) (hbytes : (n + m) * bytes ≤ 140737488355328)
    (hk : ∀ A' c' w', Bs w' w'.heap.size A' (n + m) c' (l ++ l2) → Below B w w' → wpList P ops Q rest (a.put o.dst (.slice A' (n + m) c')) w') : wpList P ops Q (o :: rest) a w := by
  refine wpList_plain hgd fun K hK => ?_
  obtain ⟨A', c', w', hrun, hbs, hb⟩ := run_app_came E o.type h hg hc h2 h0 hB h63 hbytes
  unfold Oper.wp
  simp [execOp, ho, resolve, invoke, builtin, hs, hx, hrun, Result.andThen]
  exact hK _ _ (hk _ _ _ hbs hb)
end
end Go.Proofs.Ytaedlaeflliibaa
