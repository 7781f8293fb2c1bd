/- The law PathLong. -/
import Derived.Test.YtaedlaeflliibaaDoorLParses15
import Derived.Test.YtaedlaeflliibaaDoorEl
import Derived.Test.YtaedlaeflliibaaDoorPure
namespace Go.Proofs.YtaedlaeflliibaaDoor
open Go.RowKit Go.Shelf Go.Deep

/-- letters, each ninth a slash -/
def longB (d : UInt8) (k : Nat) : Nm := (List.range k).map fun i => if i % 9 = 8 then 47 else d
theorem longB_length (d : UInt8) (k : Nat) : (longB d k).length = k := by simp [longB]
theorem longB_small (d : UInt8) (k : Nat) (h : k ≤ 8) : longB d k = List.replicate k d := by
  apply List.ext_getElem (by simp [longB])
  intro i h1 h2
  have hi : i < k := by simpa [longB] using h1
  simp only [longB, List.getElem_map, List.getElem_range, List.getElem_replicate]
  rw [if_neg (by omega)]
theorem longB_nine (d : UInt8) (k : Nat) : longB d (9 + k) = List.replicate 8 d ++ 47 :: longB d k := by
  apply List.ext_getElem (by simp [longB]; omega)
  intro i h1 h2
  have hi : i < 9 + k := by simpa [longB] using h1
  simp only [longB, List.getElem_map, List.getElem_range]
  by_cases h8 : i < 8
  · rw [List.getElem_append_left (by simpa using h8), List.getElem_replicate, if_neg (by omega)]
  · rw [List.getElem_append_right (by simp; omega)]
    by_cases h9 : i = 8
    · subst h9; simp
    · obtain ⟨j, rfl⟩ : ∃ j, i = j + 9 := ⟨i - 9, by omega⟩
      simp only [List.length_replicate]
      have e : j + 9 - 8 = j + 1 := by omega
      simp only [e, List.getElem_cons_succ, List.getElem_map, List.getElem_range]
      have : (j + 9) % 9 = j % 9 := by omega
      rw [this]
theorem rep_ok (d : UInt8) (m : Nat) (hd : 97 ≤ d.toNat) (h1 : 1 ≤ m) (h2 : m ≤ 8) : okNm (List.replicate m d) = true := by
  have hs : slB d = false := by
    cases h : slB d with
    | false => rfl
    | true => rcases (slB_iff d).1 h with h | h <;> omega
  have ha : (List.replicate m d).any slB = false := by
    cases h : (List.replicate m d).any slB with
    | false => rfl
    | true =>
      obtain ⟨x, hx, hb⟩ := List.any_eq_true.1 h
      rw [(List.mem_replicate.1 hx).2, hs] at hb; cases hb
  have hne : ∀ l : Nm, (∀ x ∈ l, x = 46) → (List.replicate m d == l) = false := fun l hl => by
    rw [beq_eq_false_iff_ne]
    intro e
    have hm : d ∈ l := by rw [← e]; exact List.mem_replicate.2 ⟨by omega, rfl⟩
    have := hl d hm
    rw [this] at hd
    exact absurd hd (by decide)
  unfold okNm
  rw [ha, hne dotL (by simp [dotL]), hne dotsL (by simp [dotsL])]
  simp; omega
theorem rep_slash (d : UInt8) (m : Nat) (hd : 97 ≤ d.toNat) : (47 : UInt8) ∉ List.replicate m d := by
  intro h
  have := (List.mem_replicate.1 h).2
  rw [← this] at hd
  exact absurd hd (by decide)
theorem long_split (d : UInt8) (hd : 97 ≤ d.toNat) : ∀ (q r : Nat), r ≤ 8 → splitS (longB d (9 * q + r)) = List.replicate q (List.replicate 8 d) ++ [List.replicate r d]
  | 0, r, h => by rw [Nat.mul_zero, Nat.zero_add, longB_small d r h, split_no _ (rep_slash d r hd)]; rfl
  | q + 1, r, h => by
    rw [show 9 * (q + 1) + r = 9 + (9 * q + r) by omega, longB_nine, split_at _ _ (rep_slash d 8 hd), long_split d hd q r h]; rfl
theorem long_path (d : UInt8) (hd : 97 ≤ d.toNat) (k : Nat) (h1 : 1 ≤ k) (h2 : k ≤ 200) : okS (longB d k) = true ∧ slashS (longB d k) = false ∧ (namS (longB d k)).length = (k + 8) / 9 := by
  obtain ⟨q, r, rfl, hr⟩ : ∃ q r, k = 9 * q + r ∧ r ≤ 8 := ⟨k / 9, k % 9, by omega, by omega⟩
  have hsp := long_split d hd q r hr
  have h8 := rep_ok d 8 hd (by omega) (by omega)
  have hr0 : badP (List.replicate r d) = false := by
    rcases Nat.eq_zero_or_pos r with rfl | h
    · rfl
    · exact okNm_bad' (rep_ok d r hd h hr)
  have ho : okS (longB d (9 * q + r)) = true := okS_of (by rw [longB_length]; exact h1) (by rw [longB_length]; exact h2) (by
    rw [hsp]
    intro x hx
    rcases List.mem_append.1 hx with hx | hx
    · rw [(List.mem_replicate.1 hx).2]; exact okNm_bad' h8
    · rw [List.mem_singleton.1 hx]; exact hr0)
  refine ⟨ho, ?_, ?_⟩
  · have : ∃ t, longB d (9 * q + r) = d :: t := by
      cases q with
      | zero =>
        rw [Nat.mul_zero, Nat.zero_add, longB_small d r hr]
        obtain ⟨r', rfl⟩ : ∃ r', r = r' + 1 := ⟨r - 1, by omega⟩
        exact ⟨_, rfl⟩
      | succ q =>
        rw [show 9 * (q + 1) + r = 9 + (9 * q + r) by omega, longB_nine]
        exact ⟨_, rfl⟩
    obtain ⟨t, ht⟩ := this
    rw [ht]
    have hd47 : d ≠ 47 := by intro e; rw [e] at hd; exact absurd hd (by decide)
    simp [slashS, hd47]
  · rw [namS_ok ho, hsp, List.filter_append, List.length_append]
    have e1 : (List.replicate q (List.replicate 8 d)).filter keepP = List.replicate q (List.replicate 8 d) := by
      rw [List.filter_eq_self]
      intro x hx
      rw [(List.mem_replicate.1 hx).2]; exact okNm_keep h8
    rw [e1, List.length_replicate]
    rcases Nat.eq_zero_or_pos r with rfl | h
    · have : ([List.replicate 0 d] : List Nm).filter keepP = [] := rfl
      rw [this]; simp; omega
    · have hk := okNm_keep (rep_ok d r hd h hr)
      rw [List.filter_cons, if_pos hk]; simp; omega
section
variable {w : World} {ops : Array Oper} {rest : List Oper} {o : Oper} {a : Act} {Q : Exit → Act → World → Prop}
/-- string(b) of bytes -/
theorem wpList_strOf (hg : o.guard = none) (x : Operand) (hop : o.op = .convert 44 9 x) {B : Nat} {A : Option Addr} {n c : Nat} {l : Nm} (hx : a.eval x = .slice A n c) (hb : Bs w B A n c l)
    (h : wpList Tryd.prog ops Q rest (a.put o.dst (.string ⟨l.toArray⟩)) w) : wpList Tryd.prog ops Q (o :: rest) a w := by
  refine wpList_plain hg fun K hK => ?_
  have hrun : (convert 44 9 (.slice A n c)).run Tryd.prog w = .ok (.string ⟨l.toArray⟩) w := by
    cases A with
    | none =>
      have hc := hb.nil rfl
      have hn : n = 0 := by have := hb.cap; omega
      obtain rfl : l = [] := List.eq_nil_of_length_eq_zero (by rw [hb.len, hn])
      rw [run_convert_bytes_string w 44 9 5 none n c el8.ty (by kernel_rfl) Tryd.underlying9]
      subst hn hc
      simp [Conv.bytesToString]
      rfl
    | some ad =>
      have hlen := hb.len
      subst hlen
      exact run_convert_bytes_back w 44 9 5 ad c l el8.ty (by kernel_rfl) Tryd.underlying9 (fun j hj => hb.news ad rfl j _ (cells8_at l j hj))
  unfold Oper.wp execOp
  simp only [hop, hx, Sem.run_bind, hrun, Result.andThen_ok, Sem.run_pure]
  exact hK _ _ h
end
section
set_option maxRecDepth 100000
set_option maxHeartbeats 4000000
theorem law_pathLong (n c : Int) (w : World) (hn : (Lit.int .u16 n).wf = true) (hc : (Lit.int .u8 c).wf = true) :
    Calls Tryd.prog 9 #[.int .u16 n, .int .u8 c] w fun e w' => e = .returned (.bool true) ∧ Below w.heap.size w w' := by
  have hn2 : 0 ≤ n ∧ n ≤ 65535 := by simpa [Lit.wf, IntKind.min, IntKind.max, IntKind.signed, IntKind.bits] using hn
  have hc2 : 0 ≤ c ∧ c ≤ 255 := by simpa [Lit.wf, IntKind.min, IntKind.max, IntKind.signed, IntKind.bits] using hc
  obtain ⟨x, rfl⟩ := Int.eq_ofNat_of_zero_le hn2.1
  obtain ⟨y, rfl⟩ := Int.eq_ofNat_of_zero_le hc2.1
  obtain ⟨k, hk⟩ : ∃ k, k = x % 300 := ⟨_, rfl⟩
  have hkm : ((x : Int).tmod 300) = (k : Int) := by rw [hk]; rfl
  have hk300 : k < 300 := by omega
  have hx16 : x ≤ 65535 := by omega
  have hy8 : y ≤ 255 := by omega
  clear hn hc hk hn2 hc2
  go_enter Tryd.func9, Tryd.ntmps9
  go_wp2_with (with_reducible refine wpList_mk (o := ⟨some 14, _, _, _, _, _⟩) el8 rfl _ _ rfl w.heap.size _ _ _ _ k rfl rfl rfl rfl (by omega) (by simp only [maxLen]; omega) (Nat.le_refl _) ?_)
  intro w1 hown hg
  have hb1 : Below w.heap.size w w1 := (Below.refl _ _).grown hg (Nat.le_refl _) (by simp)
  obtain ⟨d, hd⟩ : ∃ d : UInt8, d = UInt8.ofNat (97 + y % 20) := ⟨_, rfl⟩
  have hdn : d.toNat = 97 + y % 20 := by rw [hd]; simp; omega
  obtain ⟨D, hD⟩ : ∃ D, D = d.toNat := ⟨_, rfl⟩
  have HD : Kp (D = d.toNat ∧ 97 ≤ d.toNat) := ⟨hD, by omega⟩
  have hD1 : D ≤ 116 := by omega
  obtain ⟨r, hr⟩ : ∃ r, r = y % 20 := ⟨_, rfl⟩
  have hq1 : ((y : Int).tmod 20) = (r : Int) := by rw [hr]; rfl
  have hq2 : (97 : Int) + (r : Int) = (D : Int) := by omega
  have hr20 : r < 20 := by omega
  have H1 : Kp (w1.ownsRow w.heap.size 5 1 (.slice (some ⟨w.heap.size, 0, none⟩) k k) k (cells8 (longB d 0 ++ List.replicate (k - 0) 0))) := ⟨by
    have e : cells8 (longB d 0 ++ List.replicate (k - 0) 0) = List.replicate k (Value.int .u8 0) := by simp [longB, cells8]
    rw [e]; exact hown⟩
  have HB1 : Kp _ := ⟨hb1⟩
  clear hown hg hb1 hd hdn hD hr
  go_wp2
  go_loopg [7] k (fun gk v7 wr => ∃ i : Nat, i + gk = k ∧ v7 = .int .i64 (i : Int) ∧ Kp (wr.ownsRow w.heap.size 5 1 (.slice (some ⟨w.heap.size, 0, none⟩) k k) k (cells8 (longB d i ++ List.replicate (k - i) 0))) ∧ Kp (Below w.heap.size w wr))
  case atStart => exact ⟨0, by omega, rfl, H1, HB1⟩
  case round =>
    obtain ⟨i, hig, rfl, H, HB⟩ := hrel
    cases gk with
    | succ g2 =>
      have hlt : (i : Int) < (k : Int) := by omega
      have hik : i < k := by omega
      have hi300 : i < 300 := by omega
      have hc0 : wr.cell? ⟨w.heap.size, i, none⟩ = some (.int .u8 0) := by
        rw [H.out.cellAt i (by omega)]
        unfold cells8
        rw [List.getElem?_map, List.getElem?_append_right (by rw [longB_length]; exact Nat.le_refl _), longB_length, Nat.sub_self, List.getElem?_replicate, if_pos (by omega)]
        rfl
      have hf0 := H.out.frozenAt i
      have hst := H.out.stored i (.int .u8 (D : Int))
      have HS1 : Kp ((wr.setCell ⟨w.heap.size, i, none⟩ (.int .u8 (D : Int))).ownsRow w.heap.size 5 1 (.slice (some ⟨w.heap.size, 0, none⟩) k k) k (cells8 (longB d i ++ d :: List.replicate (k - (i + 1)) 0))) := ⟨by
        have e : (cells8 (longB d i ++ List.replicate (k - i) 0)).set i (.int .u8 (D : Int)) = cells8 (longB d i ++ d :: List.replicate (k - (i + 1)) 0) := by
          unfold cells8
          rw [HD.out.1, ← List.map_set (f := fun b : UInt8 => Value.int .u8 (b.toNat : Int)), List.set_append_right _ _ (by rw [longB_length]; exact Nat.le_refl _), longB_length, Nat.sub_self, show k - i = (k - (i + 1)) + 1 by omega, List.replicate_succ, List.set_cons_zero]
        rw [← e]; exact hst.1⟩
      have HB2 : Kp (Below w.heap.size w (wr.setCell ⟨w.heap.size, i, none⟩ (.int .u8 (D : Int)))) := ⟨HB.out.setCell (Nat.le_refl _) _⟩
      by_cases h8 : i % 9 = 8
      · have h8I : ((i : Int) % 9 == 8) = true := by simp only [beq_iff_eq]; omega
        have hc1 : (wr.setCell ⟨w.heap.size, i, none⟩ (.int .u8 (D : Int))).cell? ⟨w.heap.size, i, none⟩ = some (.int .u8 (D : Int)) := World.cell?_setCell_same' _ _ _ (by rw [hc0]; rfl)
        have hf1 := HS1.out.frozenAt i
        have hst2 := HS1.out.stored i (.int .u8 47)
        have HS2 : Kp (((wr.setCell ⟨w.heap.size, i, none⟩ (.int .u8 (D : Int))).setCell ⟨w.heap.size, i, none⟩ (.int .u8 47)).ownsRow w.heap.size 5 1 (.slice (some ⟨w.heap.size, 0, none⟩) k k) k (cells8 (longB d (i + 1) ++ List.replicate (k - (i + 1)) 0))) := ⟨by
          have e : (cells8 (longB d i ++ d :: List.replicate (k - (i + 1)) 0)).set i (.int .u8 47) = cells8 (longB d (i + 1) ++ List.replicate (k - (i + 1)) 0) := by
            have e2 : longB d (i + 1) = longB d i ++ [47] := by unfold longB; rw [List.range_succ, List.map_append]; simp [h8]
            unfold cells8
            rw [e2, show (Value.int .u8 47) = (fun b : UInt8 => Value.int .u8 (b.toNat : Int)) 47 from rfl, ← List.map_set (f := fun b : UInt8 => Value.int .u8 (b.toNat : Int)), List.set_append_right _ _ (by rw [longB_length]; exact Nat.le_refl _), longB_length, Nat.sub_self, List.set_cons_zero]
            simp
          rw [← e]; exact hst2.1⟩
        have HB3 : Kp _ := ⟨HB2.out.setCell (p := ⟨w.heap.size, i, none⟩) (Nat.le_refl _) (.int .u8 47)⟩
        clear hst hst2 HS1 HB2 h8
        go_wp2
        go_roundg g2
        case measure => omega
        case rel => exact ⟨i + 1, by omega, by go_num, HS2, HB3⟩
      · have h8I : ((i : Int) % 9 == 8) = false := by simp only [beq_eq_false_iff_ne]; omega
        have HS2 : Kp ((wr.setCell ⟨w.heap.size, i, none⟩ (.int .u8 (D : Int))).ownsRow w.heap.size 5 1 (.slice (some ⟨w.heap.size, 0, none⟩) k k) k (cells8 (longB d (i + 1) ++ List.replicate (k - (i + 1)) 0))) := ⟨by
          have e2 : longB d (i + 1) = longB d i ++ [d] := by unfold longB; rw [List.range_succ, List.map_append]; simp [h8]
          rw [e2, List.append_assoc]; exact HS1.out⟩
        clear hst HS1 h8
        go_wp2
        go_roundg g2
        case measure => omega
        case rel => exact ⟨i + 1, by omega, by go_num, HS2, HB2⟩
    | zero =>
      obtain rfl : i = k := by omega
      have hend : ¬ ((i : Int) < (i : Int)) := by omega
      have HBs : Kp (Bs wr wr.heap.size (some ⟨w.heap.size, 0, none⟩) i i (longB d i)) := ⟨by
        have h := H.out
        rw [Nat.sub_self, List.replicate_zero, List.append_nil] at h
        obtain ⟨A, c, e, hb⟩ := Bs.of_own h
        cases e
        exact hb⟩
      have hlen : (longB d i).length ≤ 140737488351232 := by rw [longB_length]; omega
      have HPa : Kp (∀ W, _) := ⟨fun W => parse_any (longB d i) W hlen⟩
      clear H hlen hig
      have HW : Kp (Below w.heap.size w wr) := ⟨HB.out⟩
      clear HB
      by_cases hbad : i = 0 ∨ 200 < i
      · have ho : okS (longB d i) = false := by
          rcases hbad with h | h
          · exact okS_short (by rw [longB_length]; omega)
          · exact okS_long (by rw [longB_length]; exact h)
        rw [errS_no ho, absS_no ho, namS_no ho] at HPa
        clear ho
        go_wp2_with (refine wpList_strOf (o := ⟨some 34, _, _, _, _, _⟩) rfl _ rfl rfl HBs.out ?_)
        refine (HPa.out _).mono ?_
        rintro e w11 ⟨A1, n1, c1, rfl, hs1, hb'⟩
        replace HW : Kp _ := ⟨HW.out.trans (hb'.mono HW.out.size)⟩
        obtain rfl : n1 = 0 := hs1.len.symm
        have S1 : Kp _ := ⟨hs1⟩
        clear hs1
        clear hb'
        go_upto_region 10 with fail
        have hbx : Below w11.heap.size w11 (w11.alloc (.cells #[.bool false, .slice A1 0 c1] 25)) := (Below.refl _ _).alloc (Nat.le_refl _) _
        have KP : Kp _ := ⟨Blk.new w11 25 [.bool false, .slice A1 0 c1]⟩
        obtain ⟨w12, hw12⟩ : ∃ x, x = w11.alloc (.cells #[.bool false, .slice A1 0 c1] 25) := ⟨_, rfl⟩
        rw [← hw12] at hbx KP ⊢
        replace S1 : Kp _ := ⟨S1.out.next hbx (Nat.le_refl _)⟩
        replace HW : Kp _ := ⟨HW.out.trans (hbx.mono HW.out.size)⟩
        obtain ⟨GP, hG⟩ : ∃ g, g = w11.heap.size := ⟨_, rfl⟩
        rw [← hG] at KP ⊢
        clear hG hbx hw12
        have cKP0 : w12.cell? ⟨GP, 0, none⟩ = some (.bool false) := KP.out.cell? 0
        have cKP1 : w12.cell? ⟨GP, 1, none⟩ = some (.slice A1 0 c1) := KP.out.cell? 1
        rcases hbad with h0 | h0
        · subst h0
          go_wp2_with fail
          refine (refsame_any false false A1 none 0 c1 0 0 [] [] _ _ 0 S1.out (Ss.zero _ _) (Nat.le_refl _) (Nat.zero_le _)).mono ?_
          rintro e w13 ⟨rfl, hb'⟩
          replace KP : Kp _ := ⟨KP.out.below hb' KP.out.lt⟩
          replace S1 : Kp _ := ⟨S1.out.next hb' (Nat.le_refl _)⟩
          replace HW : Kp _ := ⟨HW.out.trans (hb'.mono HW.out.size)⟩
          rw [same_self]
          clear hb'
          clear cKP0 cKP1
          go_wp2_with fail
          refine (known15_any _).mono ?_
          rintro e w14 ⟨rfl, hb'⟩
          replace KP : Kp _ := ⟨KP.out.below hb' KP.out.lt⟩
          replace S1 : Kp _ := ⟨S1.out.next hb' (Nat.le_refl _)⟩
          replace HW : Kp _ := ⟨HW.out.trans (hb'.mono HW.out.size)⟩
          clear hb'
          go_wp2
          go_ret
          exact ⟨rfl, HW.out⟩
        · have h0I : (200 : Int) < (i : Int) := by omega
          have h0n : ¬ (i : Int) = 0 := by omega
          go_wp2_with fail
          refine (refsame_any false false A1 none 0 c1 0 0 [] [] _ _ 0 S1.out (Ss.zero _ _) (Nat.le_refl _) (Nat.zero_le _)).mono ?_
          rintro e w13 ⟨rfl, hb'⟩
          replace KP : Kp _ := ⟨KP.out.below hb' KP.out.lt⟩
          replace S1 : Kp _ := ⟨S1.out.next hb' (Nat.le_refl _)⟩
          replace HW : Kp _ := ⟨HW.out.trans (hb'.mono HW.out.size)⟩
          rw [same_self]
          clear hb'
          clear cKP0 cKP1
          go_wp2_with fail
          refine (known15_any _).mono ?_
          rintro e w14 ⟨rfl, hb'⟩
          replace KP : Kp _ := ⟨KP.out.below hb' KP.out.lt⟩
          replace S1 : Kp _ := ⟨S1.out.next hb' (Nat.le_refl _)⟩
          replace HW : Kp _ := ⟨HW.out.trans (hb'.mono HW.out.size)⟩
          clear hb'
          go_wp2
          go_ret
          exact ⟨rfl, HW.out⟩
      · obtain ⟨p1, p2, p3⟩ := long_path d HD.out.2 i (by omega) (by omega)
        rw [errS_ok p1, absS_ok p1, p2] at HPa
        obtain ⟨ns, hns⟩ : ∃ ns, ns = namS (longB d i) := ⟨_, rfl⟩
        rw [← hns] at HPa p3
        obtain ⟨q, hq⟩ : ∃ q, q = (i + 8) / 9 := ⟨_, rfl⟩
        rw [← hq] at p3
        have hq9 : ((i : Int) + 8) / 9 = (q : Int) := by omega
        have hn0 : ((i : Int) == 0) = false := by simp only [beq_eq_false_iff_ne]; omega
        have h2I : ¬ (200 : Int) < (i : Int) := by omega
        have HP3 : Kp (ns.length = q) := ⟨p3⟩
        clear p1 p2 p3 hns hq hbad
        go_wp2_with (refine wpList_strOf (o := ⟨some 34, _, _, _, _, _⟩) rfl _ rfl rfl HBs.out ?_)
        refine (HPa.out _).mono ?_
        rintro e w11 ⟨A1, n1, c1, rfl, hs1, hb'⟩
        replace HW : Kp _ := ⟨HW.out.trans (hb'.mono HW.out.size)⟩
        obtain rfl : n1 = q := by rw [← hs1.len]; exact HP3.out
        have S1 : Kp _ := ⟨hs1⟩
        clear hs1
        clear hb'
        go_upto_region 10 with fail
        have hbx : Below w11.heap.size w11 (w11.alloc (.cells #[.bool false, .slice A1 n1 c1] 25)) := (Below.refl _ _).alloc (Nat.le_refl _) _
        have KP : Kp _ := ⟨Blk.new w11 25 [.bool false, .slice A1 n1 c1]⟩
        obtain ⟨w12, hw12⟩ : ∃ x, x = w11.alloc (.cells #[.bool false, .slice A1 n1 c1] 25) := ⟨_, rfl⟩
        rw [← hw12] at hbx KP ⊢
        replace S1 : Kp _ := ⟨S1.out.next hbx (Nat.le_refl _)⟩
        replace HW : Kp _ := ⟨HW.out.trans (hbx.mono HW.out.size)⟩
        obtain ⟨GP, hG⟩ : ∃ g, g = w11.heap.size := ⟨_, rfl⟩
        rw [← hG] at KP ⊢
        clear hG hbx hw12
        have cKP0 : w12.cell? ⟨GP, 0, none⟩ = some (.bool false) := KP.out.cell? 0
        have cKP1 : w12.cell? ⟨GP, 1, none⟩ = some (.slice A1 n1 c1) := KP.out.cell? 1
        go_wp2_with fail
        refine (known15_any _).mono ?_
        rintro e w13 ⟨rfl, hb'⟩
        replace KP : Kp _ := ⟨KP.out.below hb' KP.out.lt⟩
        replace S1 : Kp _ := ⟨S1.out.next hb' (Nat.le_refl _)⟩
        replace HW : Kp _ := ⟨HW.out.trans (hb'.mono HW.out.size)⟩
        clear hb'
        clear cKP0 cKP1
        go_wp2
        go_ret
        exact ⟨rfl, HW.out⟩
end
end Go.Proofs.YtaedlaeflliibaaDoor
