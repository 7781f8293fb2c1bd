/- The walk of SealOrder.
   A slice of a slice, in a region that draws its order. No program is named here. -/
import Derived.Test.YtadpfbjpkbpanaaG19
import Derived.Test.YtadpfbjpkbpanaaG01
namespace Go.Proofs.Ytadpfbjpkbpanaa
open Go.RowKit

theorem TwoL.la {W : World} {base k k2 c c2 : Nat} {A A2 : Option Addr} {va vb : List Value} {fa fb : List (List UInt8)} (h : TwoL W base k A c va fa k2 A2 c2 vb fb) : Ls W W.heap.size A k c fa := by
  obtain ⟨A', c', e, h1⟩ := h.faa.lists h.ra (Nat.le_refl _)
  cases e
  exact h1
noncomputable def encsL (key : List UInt8) (r : Rc) (l : List UInt8) : List (List UInt8) := l.map fun u => encL key (reN r u.toNat)
noncomputable def mixL (key : List UInt8) (r : Rc) (odd : List UInt8) (l : List UInt8) : List (List UInt8) := l.flatMap fun u => [odd, encL key (reN r u.toNat)]
def anyN (n : Nat) (l : List UInt8) : Bool := l.any fun u => decide (u.toNat = n)
theorem anyN_succ (n : Nat) (l : List UInt8) (k : Nat) (h : k < l.length) : anyN n (l.take (k + 1)) = (anyN n (l.take k) || decide (l[k].toNat = n)) := by
  unfold anyN; rw [List.take_succ_eq_append_getElem h, List.any_append]; simp
theorem encs_succ (key : List UInt8) (r : Rc) (l : List UInt8) (k : Nat) (h : k < l.length) : encsL key r (l.take (k + 1)) = encsL key r (l.take k) ++ [encL key (reN r l[k].toNat)] := by
  unfold encsL; rw [List.take_succ_eq_append_getElem h, List.map_append]; rfl
theorem mix_succ (key : List UInt8) (r : Rc) (odd l : List UInt8) (k : Nat) (h : k < l.length) : mixL key r odd (l.take (k + 1)) = mixL key r odd (l.take k) ++ [odd] ++ [encL key (reN r l[k].toNat)] := by
  unfold mixL; rw [List.take_succ_eq_append_getElem h, List.flatMap_append]; simp
theorem dec_short {key l : List UInt8} (h : l.length < 48) : decO key l = none := decO_none _ _ fun ⟨r, hr⟩ => by
  have := encL_len key r hr.1
  rw [hr.2.2] at this
  omega
theorem fm_encs {key : List UInt8} {r : Rc} (hg : Rg r) (ht : Rt r) (l : List UInt8) : (encsL key r l).filterMap (decO key) = l.map fun u => reN r u.toNat := by
  induction l with
  | nil => rfl
  | cons u l ih =>
    show List.filterMap (decO key) (encL key (reN r u.toNat) :: encsL key r l) = _
    rw [List.filterMap_cons, reN_dec hg ht (by have := u.toNat_lt; omega), ih]; rfl
theorem fm_mix {key : List UInt8} {r : Rc} (hg : Rg r) (ht : Rt r) (odd : List UInt8) (ho : odd.length ≤ 15) (l : List UInt8) : (mixL key r odd l).filterMap (decO key) = l.map fun u => reN r u.toNat := by
  induction l with
  | nil => rfl
  | cons u l ih =>
    show List.filterMap (decO key) (odd :: encL key (reN r u.toNat) :: mixL key r odd l) = _
    rw [List.filterMap_cons, dec_short (by omega)]
    simp only
    rw [List.filterMap_cons, reN_dec hg ht (by have := u.toNat_lt; omega), ih]; rfl
theorem find_nrs (r : Rc) (n : Nat) (l : List UInt8) : (l.map fun u => reN r u.toNat).find? (fun q => decide (q.num = n)) = if anyN n l then some (reN r n) else none := by
  induction l with
  | nil => rfl
  | cons u l ih =>
    rw [List.map_cons, List.find?_cons]
    by_cases h : u.toNat = n
    · have : decide ((reN r u.toNat).num = n) = true := decide_eq_true h
      rw [this]
      simp [anyN, h]
    · have : decide ((reN r u.toNat).num = n) = false := decide_eq_false h
      rw [this]
      simp only
      rw [ih]
      simp [anyN, h]
theorem choose_encs {key : List UInt8} {r : Rc} (hg : Rg r) (ht : Rt r) (l : List UInt8) (ctr : Nat) (hc : ctr ≤ 255) : chooseO key ctr (encsL key r l) = if anyN (ctr + 1) l then some (reN r (ctr + 1)) else if anyN ctr l then some (reN r ctr) else none := by
  unfold chooseO pickO
  rw [if_pos (by omega), fm_encs hg ht, find_nrs, find_nrs]
  cases anyN (ctr + 1) l <;> simp
theorem choose_mix {key : List UInt8} {r : Rc} (hg : Rg r) (ht : Rt r) (odd : List UInt8) (ho : odd.length ≤ 15) (l : List UInt8) (ctr : Nat) : chooseO key ctr (mixL key r odd l) = chooseO key ctr (encsL key r l) := by
  unfold chooseO pickO
  rw [fm_encs hg ht, fm_mix hg ht odd ho]
theorem encs_len {key : List UInt8} {r : Rc} {l : List UInt8} {N : Nat} (h : ∀ u : UInt8, (encL key (reN r u.toNat)).length ≤ N) : ∀ x ∈ encsL key r l, x.length ≤ N := by
  intro x hx
  obtain ⟨u, _, rfl⟩ := List.mem_map.1 hx
  exact h u
theorem mix_len {key : List UInt8} {r : Rc} {odd l : List UInt8} {N : Nat} (ho : odd.length ≤ N) (h : ∀ u : UInt8, (encL key (reN r u.toNat)).length ≤ N) : ∀ x ∈ mixL key r odd l, x.length ≤ N := by
  intro x hx
  obtain ⟨u, _, hu⟩ := List.mem_flatMap.1 hx
  simp at hu
  rcases hu with rfl | rfl
  · exact ho
  · exact h u
/-- Encode of what may be: the row is the call's own -/
theorem encode_fresh (key : List UInt8) (KA : Option Addr) (kn kc : Nat) (r : Rc) (A : Option Addr) (n c : Nat) (D : Option Addr) (m e : Nat) (w : World) (hK : Bs w w.heap.size KA kn kc key) (hR : Rs w w.heap.size A n c D m e r) (hkn : kn ≤ 524288) (ht : Rt r) (N : Nat) (hN : (encL key r).length = N) :
    Calls Try.prog 12 #[.slice KA kn kc, rcV r A n c D m e] w fun x w' => ∃ A' c', x = .returned (.tuple #[.slice A' N c', .int .i64 0]) ∧ Bs w' w'.heap.size A' N c' (encL key r) ∧ (∀ ad, A' = some ad → w.heap.size ≤ ad.block) ∧ Below w.heap.size w w' := by
  refine (encode_own key KA kn kc r A n c D m e w hK hR hkn).mono ?_
  rintro x w' ⟨hb, ⟨h, _⟩ | ⟨_, A', c', rfl, h2⟩⟩
  · exact absurd ht h
  · subst hN
    obtain ⟨A2, c2, e2, _, _, _, hs⟩ := own_form h2
    cases e2
    exact ⟨A', c', rfl, Bs.of_own' h2, fun ad h => by obtain ⟨g, rfl, hg, _⟩ := hs ad h; exact hg, hb⟩
theorem own_lt {W : World} {base k : Nat} {A : Option Addr} {c : Nat} {va : List Value} (h : W.ownsRow base 22 1 (.slice A k c) k va) {b : Nat} (hb : W.heap.size ≤ b) : (Value.slice A k c).ownBlock ≠ some b := fun e => by have := (h.lt b e).2; omega
theorem own_gt {W : World} {base k : Nat} {A : Option Addr} {c : Nat} {va : List Value} (h : W.ownsRow base 22 1 (.slice A k c) k va) {b : Nat} (hb : b < base) : (Value.slice A k c).ownBlock ≠ some b := fun e => by have := (h.lt b e).1; omega
theorem u8_nat {z : Int} (h : (Lit.int .u8 z).wf = true) : ∃ k : Nat, z = (k : Int) ∧ k ≤ 255 := by
  have := bounds_u8 h
  exact ⟨z.toNat, by omega, by omega⟩

set_option maxRecDepth 100000 in
set_option maxHeartbeats 8000000 in
theorem law_sealOrder (KA : Option Addr) (kn kc : Nat) (key : List UInt8) (r : Rc) (A : Option Addr) (n c : Nat) (D : Option Addr) (m e : Nat) (LA : Option Addr) (ln lc : Nat) (l : List UInt8) (z : Int) (OA : Option Addr) (on_ oc : Nat) (odd : List UInt8) (w : World) (hK0 : Bs w w.heap.size KA kn kc key ∧ kc ≤ 140737488351232)
    (hR : Rs w w.heap.size A n c D m e r) (hn : n ≤ 140737488351232) (hm : m * 32 ≤ 140737488351232) (hL0 : Bs w w.heap.size LA ln lc l ∧ lc ≤ 140737488351232) (hz : (Lit.int .u8 z).wf = true) (hO0 : Bs w w.heap.size OA on_ oc odd ∧ oc ≤ 140737488351232) :
    Calls Try.prog 9 #[.slice KA kn kc, rcV r A n c D m e, .slice LA ln lc, .int .u8 z, .slice OA on_ oc] w fun x w' => x = .returned (.bool true) ∧ Below w.heap.size w w' := by
  obtain ⟨ctr, rfl, hctr⟩ := u8_nat hz
  have hK := hK0.1
  have hL := hL0.1
  have hO := hO0.1
  obtain ⟨S1, hS1⟩ : ∃ S, n + 32 * m = S := ⟨_, rfl⟩
  have hk63 := hK.le
  have hl63 := hL.le
  have ho63 := hO.le
  have HS1 : Kp _ := ⟨hS1⟩
  have HCt : Kp _ := ⟨hctr⟩
  have HN : Kp (n ≤ 140737488351232 ∧ m * 32 ≤ 140737488351232) := ⟨⟨hn, hm⟩⟩
  have HRo : Kp (∀ W, Below w.heap.size w W → Rs W W.heap.size A n c D m e r) := ⟨fun W h => hR.next h (Nat.le_refl _)⟩
  have HKo : Kp (∀ W, Below w.heap.size w W → Bs W W.heap.size KA kn kc key) := ⟨fun W h => hK.next h (Nat.le_refl _)⟩
  have HLo : Kp (∀ W, Below w.heap.size w W → Bs W w.heap.size LA ln lc l) := ⟨fun W h => hL.below h⟩
  have HOo : Kp (∀ W, Below w.heap.size w W → Bs W w.heap.size OA on_ oc odd) := ⟨fun W h => hO.below h⟩
  have HLl : Kp (l.length = ln) := ⟨hL.len⟩
  have HOl : Kp (odd.length = on_) := ⟨hO.len⟩
  have HG : Kp _ := ⟨rg_of hR⟩
  have HSl : Kp (r.sl.length = n ∧ r.su.length = m) := ⟨hR.sl.len, hR.su.len⟩
  clear hR hn hm hK hK0 hL hL0 hO hO0 hS1 hz hctr
  go_enter Try.func9, Try.ntmps9
  go_wp2_with (with_reducible refine wpList_box (o := ⟨some 6, _, _, _, _, _⟩) (cs := rcL r.num r.blk A n c D m e) rfl (.tmp 1) rfl rfl ?_)
  intro w1 hk1 hb1 hs1
  have HX1 : Kp _ := ⟨hk1⟩
  have HB1 : Kp _ := ⟨hb1⟩
  clear hk1 hb1 hs1
  by_cases hk : 100 < kn
  · have dk : decide ((100 : Int) < (kn : Int)) = true := decide_eq_true (by omega)
    clear hk
    go_wp2_with fail
    refine (known8_any w1).mono ?_
    rintro xk wk ⟨rfl, hbk⟩
    have HBk : Kp (Below w.heap.size w wk) := ⟨HB1.out.trans (hbk.mono HB1.out.size)⟩
    clear hbk
    go_wp2
    go_ret
    exact ⟨rfl, HBk.out⟩
  · have dk : decide ((100 : Int) < (kn : Int)) = false := decide_eq_false (by omega)
    have HK100 : Kp (kn ≤ 100) := ⟨by omega⟩
    clear hk
    go_wp2_with (with_reducible refine wpList_loadAll_g (o := ⟨some 27, _, _, _, _, _⟩) rwSeal (by kernel_rfl) (.tmp 6) rfl rfl HX1.out rfl ?_)
    refine (reflong_as S1 r A n c D m e w1 HN.out.1 HN.out.2 HS1.out).mono ?_
    rintro x w2 ⟨rfl, hb2⟩
    have HX2 : Kp _ := ⟨HX1.out.below hb2 HX1.out.lt⟩
    have HB2 : Kp (Below w.heap.size w w2) := ⟨HB1.out.trans (hb2.mono HB1.out.size)⟩
    clear hb2 HX1 HB1
    by_cases hs : 500 < S1
    · have ds : decide ((500 : Int) < (S1 : Int)) = true := decide_eq_true (by omega)
      clear hs
      go_wp2_with fail
      refine (known8_any w2).mono ?_
      rintro xk wk ⟨rfl, hbk⟩
      have HBk : Kp (Below w.heap.size w wk) := ⟨HB2.out.trans (hbk.mono HB2.out.size)⟩
      clear hbk
      go_wp2
      go_ret
      exact ⟨rfl, HBk.out⟩
    · have ds : decide ((500 : Int) < (S1 : Int)) = false := decide_eq_false (by omega)
      have HSm : Kp (n ≤ 500 ∧ m ≤ 15) := ⟨by have := HS1.out; omega⟩
      clear hs
      have HR2 : Kp _ := ⟨HRo.out w2 HB2.out⟩
      go_wp2_with (with_reducible refine wpList_loadAll_g (o := ⟨some 32, _, _, _, _, _⟩) rwSeal (by kernel_rfl) (.tmp 6) rfl rfl HX2.out rfl ?_)
      refine (refright_any r A n c D m e w2 HR2.out (by have := HSm.out; omega)).mono ?_
      rintro x w3 ⟨rfl, hb3⟩
      have HX3 : Kp _ := ⟨HX2.out.below hb3 HX2.out.lt⟩
      have HB3 : Kp (Below w.heap.size w w3) := ⟨HB2.out.trans (hb3.mono HB2.out.size)⟩
      clear hb3 HX2 HB2 HR2
      by_cases ht : Rt r
      · have hd : decide (Rt r) = true := decide_eq_true ht
        rw [hd]
        have HT : Kp _ := ⟨ht⟩
        clear ht hd
        by_cases hl8 : 8 < ln
        · have dl : decide ((8 : Int) < (ln : Int)) = true := decide_eq_true (by omega)
          clear hl8
          go_wp2_with fail
          refine (known8_any w3).mono ?_
          rintro xk wk ⟨rfl, hbk⟩
          have HBk : Kp (Below w.heap.size w wk) := ⟨HB3.out.trans (hbk.mono HB3.out.size)⟩
          clear hbk
          go_wp2
          go_ret
          exact ⟨rfl, HBk.out⟩
        · have dl : decide ((8 : Int) < (ln : Int)) = false := decide_eq_false (by omega)
          have HL8 : Kp (ln ≤ 8) := ⟨by omega⟩
          clear hl8
          by_cases ho15 : 15 < on_
          · have do_ : decide ((15 : Int) < (on_ : Int)) = true := decide_eq_true (by omega)
            clear ho15
            go_wp2_with fail
            refine (known8_any w3).mono ?_
            rintro xk wk ⟨rfl, hbk⟩
            have HBk : Kp (Below w.heap.size w wk) := ⟨HB3.out.trans (hbk.mono HB3.out.size)⟩
            clear hbk
            go_wp2
            go_ret
            exact ⟨rfl, HBk.out⟩
          · have do_ : decide ((15 : Int) < (on_ : Int)) = false := decide_eq_false (by omega)
            have HO15 : Kp (on_ ≤ 15) := ⟨by omega⟩
            clear ho15
            obtain ⟨cn, hcn⟩ : ∃ x, x = ctr + 1 := ⟨_, rfl⟩
            have HCn : Kp (cn = ctr + 1) := ⟨hcn⟩
            obtain ⟨EN, hEN⟩ : ∃ x, x = 48 + n + 32 * m := ⟨_, rfl⟩
            have HEn : Kp (∀ a, a < 18446744073709551616 → (encL key (reN r a)).length = EN) := ⟨fun a ha => by
              rw [encL_len key (reN r a) ⟨ha, HG.out.wide⟩, hEN]
              have h1 := HSl.out.1
              have h2 := HSl.out.2
              show 48 + r.sl.length + 32 * r.su.length = _
              omega⟩
            have HEn2 : Kp (EN ≤ 10000) := ⟨by have := HSm.out; omega⟩
            have hl8 : ln ≤ 8 := HL8.out
            have hbox : Kp (w.heap.size < w3.heap.size) := ⟨HX3.out.lt⟩
            clear hcn hEN
            go_wp2
            clear dk ds dl do_ hk63 ho63
            go_loopw [11, 12, 13, 14, 15, 16, 17] (fun v11 v12 v13 v14 v15 _ _ wr => ∃ (k num : Nat) (A1 : Option Addr) (c1 : Nat) (va : List Value) (A2 : Option Addr) (c2 : Nat) (vb : List Value) (ub nb : Bool), k ≤ ln ∧ v15 = .int .i64 k ∧ v11 = .slice A1 k c1 ∧ v12 = .slice A2 (2 * k) c2 ∧ v13 = .bool ub ∧ v14 = .bool nb ∧
              Kp (ub = anyN cn (l.take k) ∧ nb = anyN ctr (l.take k)) ∧ Kp (TwoL wr w3.heap.size k A1 c1 va (encsL key r (l.take k)) (2 * k) A2 c2 vb (mixL key r odd (l.take k))) ∧ Kp (Blk wr w.heap.size 26 (rcL num r.blk A n c D m e)) ∧ Kp (Below w.heap.size w wr) ∧ Kp (w3.heap.size ≤ wr.heap.size)) (fun _ _ _ _ v15 _ _ _ => ln - (intOf v15).toNat)
            case atStart => exact ⟨0, r.num, none, 0, [], none, 0, [], false, false, Nat.zero_le _, rfl, rfl, rfl, rfl, rfl, ⟨by simp [anyN]⟩, ⟨TwoL.start _ _⟩, HX3, HB3, ⟨Nat.le_refl _⟩⟩
            case round =>
              clear HX3 HB3
              obtain ⟨k, num, A1, c1, va, A2, c2, vb, ub, nb, hk, rfl, rfl, rfl, rfl, rfl, HU, HT2, HX, HB, HZ⟩ := hrel
              by_cases hlt : k < ln
              · have hkl : k < l.length := by rw [HLl.out]; exact hlt
                obtain ⟨b1, o1, rfl, _, hcl⟩ := (HLo.out wr HB.out).cell hlt
                have HLc : Kp (∀ W, Below w.heap.size w W → W.cell? ⟨b1, o1 + k, none⟩ = some (.int .u8 (l[k].toNat : Int))) := ⟨fun W h => by
                  obtain ⟨b2, o2, e2, _, h3⟩ := (HLo.out W h).cell hlt
                  cases e2
                  exact h3⟩
                have x0 : wr.cell? ⟨w.heap.size, 0, none⟩ = some (.int .u64 num) := HX.out.cell? 0
                have f0 : wr.frozen? ⟨w.heap.size, 0, none⟩ = false := HX.out.frozen 0
                have HU1 : Kp (anyN cn (l.take (k + 1)) = (ub || decide (l[k].toNat = cn)) ∧ anyN ctr (l.take (k + 1)) = (nb || decide (l[k].toNat = ctr))) := ⟨by rw [anyN_succ _ _ _ hkl, anyN_succ _ _ _ hkl, ← HU.out.1, ← HU.out.2]; exact ⟨rfl, rfl⟩⟩
                have HEs : Kp _ := ⟨encs_succ key r l k hkl⟩
                have HMs : Kp _ := ⟨mix_succ key r odd l k hkl⟩
                have hu8 : l[k].toNat < 256 := l[k].toNat_lt
                generalize l[k].toNat = u at *
                have wu : IntKind.u64.wrap (u : Int) = (u : Int) := by rw [IntKind.wrap_u64]; omega
                have HX4 : Kp (Blk (wr.setCell ⟨w.heap.size, 0, none⟩ (.int .u64 u)) w.heap.size 26 (rcL u r.blk A n c D m e)) := ⟨HX.out.set 0 _⟩
                have HB4 : Kp (Below w.heap.size w (wr.setCell ⟨w.heap.size, 0, none⟩ (.int .u64 u))) := ⟨HB.out.setCell (p := ⟨w.heap.size, 0, none⟩) (Nat.le_refl _) _⟩
                have HT4 : Kp _ := ⟨HT2.out.setrc (i := 0) HX.out hbox.out (.int .u64 (u : Int))⟩
                have HZ4 : Kp (w3.heap.size ≤ (wr.setCell ⟨w.heap.size, 0, none⟩ (.int .u64 (u : Int))).heap.size) := ⟨by simpa using HZ.out⟩
                have HU8 : Kp _ := ⟨hu8⟩
                go_wp2_with (with_reducible refine wpList_loadAll (o := ⟨some 61, _, _, _, _, _⟩) rwSeal rfl (.tmp 6) rfl rfl HX4.out rfl ?_)
                clear x0 f0 wu hu8 HX HB HT2 HZ hcl
                generalize wr.setCell ⟨w.heap.size, 0, none⟩ (.int .u64 (u : Int)) = w4 at *
                have HRa : Kp (Rs w4 w4.heap.size A n c D m e (reN r u)) := ⟨reN_rs (HRo.out w4 HB4.out) (by have := HU8.out; omega)⟩
                have HK4 : Kp _ := ⟨HKo.out w4 HB4.out⟩
                refine (encode_fresh key KA kn kc (reN r u) A n c D m e w4 HK4.out HRa.out (by have := HK100.out; omega) (reN_rt HT.out u) EN (HEn.out u (by have := HU8.out; omega)) : Calls _ _ #[_, _] _ _).mono ?_
                rintro x w5 ⟨A5, c5, rfl, hbs5, hlo5, hb5⟩
                have HE5 : Kp _ := ⟨hbs5⟩
                have HLo5 : Kp _ := ⟨hlo5⟩
                have HX5 : Kp _ := ⟨HX4.out.below hb5 HX4.out.lt⟩
                have HB5 : Kp (Below w.heap.size w w5) := ⟨HB4.out.trans (hb5.mono HB4.out.size)⟩
                have HT5 : Kp _ := ⟨HT4.out.below hb5⟩
                have HZ5 : Kp (w3.heap.size ≤ w5.heap.size) := ⟨Nat.le_trans HZ4.out hb5.size⟩
                have HAp : Kp (∀ b, w4.heap.size ≤ b → (Value.slice A1 k c1).ownBlock ≠ some b ∧ (Value.slice A2 (2 * k) c2).ownBlock ≠ some b) := ⟨fun b h => ⟨own_lt HT4.out.ra h, own_lt HT4.out.rb h⟩⟩
                clear hbs5 hlo5 hb5 HRa HK4 HX4 HB4 HT4 HZ4
                go_wp2_with (at_builtin; refine wpList_app1 elS rfl _ _ rfl w3.heap.size _ k va rfl HT5.out.ra rfl rfl (by simp only [maxLen]; omega) (by omega) HZ5.out ?_)
                intro v6 w6 H6 hb6 hk6 hv6
                obtain ⟨A6, c6, rfl⟩ := own_form' H6.out
                have HT6 : Kp _ := ⟨HT5.out.app HE5.out (fun ad h _ => HAp.out _ (HLo5.out ad h)) H6.out hb6.size hk6 hv6⟩
                have HE6 : Kp (Bs w6 w6.heap.size A5 EN c5 (encL key (reN r u))) := ⟨(HE5.out.grown hk6 (fun ad h _ => (HAp.out _ (HLo5.out ad h)).1)).more hb6.size⟩
                have HX6 : Kp _ := ⟨HX5.out.below hb6 hbox.out⟩
                have HB6 : Kp (Below w.heap.size w w6) := ⟨HB5.out.trans (hb6.mono (Nat.le_of_lt hbox.out))⟩
                have HZ6 : Kp (w3.heap.size ≤ w6.heap.size) := ⟨Nat.le_trans HZ5.out hb6.size⟩
                have HAp6 : Kp (∀ ad, A5 = some ad → 0 < EN → (Value.slice A2 (2 * k) c2).ownBlock ≠ some ad.block ∧ (Value.slice A6 (k + 1) c6).ownBlock ≠ some ad.block) := ⟨fun ad h h0 => by
                  obtain ⟨b, o, e, hbb, _⟩ := HE5.out.cells h0
                  rw [h] at e
                  cases e
                  refine ⟨(HAp.out _ (HLo5.out _ h)).2, fun e => ?_⟩
                  rcases hv6 with e2 | ⟨g, e2, hg⟩
                  · exact (HAp.out _ (HLo5.out _ h)).1 (e2.symm.trans e)
                  · rw [e2] at e
                    have := Option.some.inj e
                    simp at this
                    omega⟩
                have HOd6 : Kp _ := ⟨((HOo.out w6 HB6.out).more HB6.out.size)⟩
                have HOa6 : Kp (∀ ad, OA = some ad → 0 < on_ → (Value.slice A2 (2 * k) c2).ownBlock ≠ some ad.block ∧ (Value.slice A6 (k + 1) c6).ownBlock ≠ some ad.block) := ⟨fun ad h h0 => by
                  obtain ⟨b, o, e, hbb, _⟩ := (HOo.out w6 HB6.out).cells h0
                  rw [h] at e
                  cases e
                  have hb3 : b < w3.heap.size := Nat.lt_trans hbb hbox.out
                  exact ⟨own_gt HT6.out.rb hb3, own_gt HT6.out.ra hb3⟩⟩
                clear H6 hb6 hk6 hv6 HT5 HE5 HX5 HB5 HZ5 HAp HLo5
                go_wp2_with (at_builtin; refine wpList_app1 elS rfl _ _ rfl w3.heap.size _ (2 * k) vb rfl HT6.out.rb rfl rfl (by simp only [maxLen]; omega) (by omega) HZ6.out ?_)
                intro v7 w7 H7 hb7 hk7 hv7
                obtain ⟨A7, c7, rfl⟩ := own_form' H7.out
                have HT7 : Kp _ := ⟨HT6.out.swap.app HOd6.out HOa6.out H7.out hb7.size hk7 hv7⟩
                have HE7 : Kp (Bs w7 w7.heap.size A5 EN c5 (encL key (reN r u))) := ⟨(HE6.out.grown hk7 (fun ad h h0 => (HAp6.out ad h h0).1)).more hb7.size⟩
                have HX7 : Kp _ := ⟨HX6.out.below hb7 hbox.out⟩
                have HB7 : Kp (Below w.heap.size w w7) := ⟨HB6.out.trans (hb7.mono (Nat.le_of_lt hbox.out))⟩
                have HZ7 : Kp (w3.heap.size ≤ w7.heap.size) := ⟨Nat.le_trans HZ6.out hb7.size⟩
                have HAp7 : Kp (∀ ad, A5 = some ad → 0 < EN → (Value.slice A7 (2 * k + 1) c7).ownBlock ≠ some ad.block ∧ (Value.slice A6 (k + 1) c6).ownBlock ≠ some ad.block) := ⟨fun ad h h0 => by
                  obtain ⟨b, o, e, hbb, _⟩ := HE6.out.cells h0
                  have h3 := HAp6.out ad h h0
                  rw [h] at e
                  cases e
                  refine ⟨fun e => ?_, h3.2⟩
                  rcases hv7 with e2 | ⟨g, e2, hg⟩
                  · exact h3.1 (e2.symm.trans e)
                  · rw [e2] at e
                    have := Option.some.inj e
                    simp at this
                    omega⟩
                clear H7 hb7 hk7 hv7 HT6 HE6 HX6 HB6 HZ6 HAp6 HOd6 HOa6
                go_wp2_with (at_builtin; refine wpList_app1 elS rfl _ _ rfl w3.heap.size _ (2 * k + 1) _ rfl HT7.out.ra rfl rfl (by simp only [maxLen]; omega) (by omega) HZ7.out ?_)
                intro v8 w8 H8 hb8 hk8 hv8
                obtain ⟨A8, c8, rfl⟩ := own_form' H8.out
                have HT8 : Kp _ := ⟨(HT7.out.app HE7.out HAp7.out (by rw [List.append_assoc]; exact H8.out) hb8.size hk8 hv8).swap⟩
                have HX8 : Kp _ := ⟨HX7.out.below hb8 hbox.out⟩
                have HB8 : Kp (Below w.heap.size w w8) := ⟨HB7.out.trans (hb8.mono (Nat.le_of_lt hbox.out))⟩
                have HZ8 : Kp (w3.heap.size ≤ w8.heap.size) := ⟨Nat.le_trans HZ7.out hb8.size⟩
                have cl8 := HLc.out w8 HB8.out
                have hu8 := HU8.out
                have hct := HCt.out
                have HE : Kp (TwoL w8 w3.heap.size (k + 1) A6 c6 _ (encsL key r (l.take (k + 1))) (2 * (k + 1)) A8 c8 _ (mixL key r odd (l.take (k + 1)))) := ⟨by rw [HEs.out, HMs.out]; exact HT8.out⟩
                have wi : IntKind.i64.wrap (u : Int) = (u : Int) := by rw [IntKind.wrap_i64]; omega
                have wc1 : IntKind.i64.wrap (ctr : Int) = (ctr : Int) := by rw [IntKind.wrap_i64]; omega
                have wc2 : IntKind.i64.wrap ((ctr : Int) + 1) = (cn : Int) := by rw [IntKind.wrap_i64]; have := HCn.out; omega
                obtain ⟨q1, hq1⟩ : ∃ q, ((u : Int) == (cn : Int)) = q := ⟨_, rfl⟩
                obtain ⟨q2, hq2⟩ : ∃ q, ((u : Int) == (ctr : Int)) = q := ⟨_, rfl⟩
                have HU2 : Kp (anyN cn (l.take (k + 1)) = (ub || q1) ∧ anyN ctr (l.take (k + 1)) = (nb || q2)) := ⟨by
                  rw [HU1.out.1, HU1.out.2, ← hq1, ← hq2]
                  constructor <;> congr 1 <;> rw [Bool.eq_iff_iff] <;> simp <;> omega⟩
                clear H8 hb8 hk8 hv8 HT7 HE7 HX7 HB7 HZ7 HAp7 HT8 HU1 hu8 hct
                cases ub
                all_goals
                  cases nb
                  all_goals
                    go_wp2
                    go_roundw
                    case rel => exact ⟨k + 1, u, A6, c6, _, A8, c8, _, _, _, by omega, by go_num, rfl, rfl, rfl, rfl, ⟨by rw [HU2.out.1, HU2.out.2]; exact ⟨by simp, by simp⟩⟩, HE, HX8, HB8, HZ8⟩
                    case measure => simp [intOf]; omega
              · obtain rfl : k = ln := by omega
                have HTk : Kp (l.take k = l) := ⟨List.take_of_length_le (by rw [HLl.out]; exact Nat.le_refl _)⟩
                rw [HTk.out] at HU HT2
                obtain ⟨p, hp⟩ : ∃ p, chooseO key ctr (encsL key r l) = p := ⟨_, rfl⟩
                have HP : Kp _ := ⟨hp⟩
                have HP2 : Kp (chooseO key ctr (mixL key r odd l) = p) := ⟨by rw [choose_mix HG.out HT.out odd (by rw [HOl.out]; exact HO15.out)]; exact hp⟩
                have HPv : Kp (p = if ub then some (reN r cn) else if nb then some (reN r ctr) else none) := ⟨by rw [← hp, choose_encs HG.out HT.out l ctr HCt.out, HU.out.1, HU.out.2, HCn.out]⟩
                have HLe : Kp (∀ x ∈ encsL key r l, x.length ≤ 1000000) := ⟨encs_len fun u => by rw [HEn.out u.toNat (by have := u.toNat_lt; omega)]; have := HEn2.out; omega⟩
                have HLm : Kp (∀ x ∈ mixL key r odd l, x.length ≤ 1000000) := ⟨mix_len (by rw [HOl.out]; have := HO15.out; omega) fun u => by rw [HEn.out u.toNat (by have := u.toNat_lt; omega)]; have := HEn2.out; omega⟩
                have HLa : Kp _ := ⟨HT2.out.la⟩
                have HKw : Kp _ := ⟨HKo.out wr HB.out⟩
                have wcu : IntKind.u64.wrap (ctr : Int) = (ctr : Int) := by rw [IntKind.wrap_u64]; have := HCt.out; omega
                have wcn : IntKind.u64.wrap ((ctr : Int) + 1) = (cn : Int) := by rw [IntKind.wrap_u64]; have := HCt.out; have := HCn.out; omega
                clear hp HX HU HTk
                go_wp2_with fail
                refine (pick8_any key KA kn kc ctr A1 k c1 _ wr HKw.out HLa.out (by have := HK100.out; omega) (by have := HCt.out; omega) HLe.out).mono ?_
                rintro x w9 ⟨A9, n9, c9, D9, m9, e9, rfl, hr9, hb9⟩
                rw [HP.out] at hr9 ⊢
                have HY9 : Kp _ := ⟨hr9⟩
                have HB9 : Kp (Below w.heap.size w w9) := ⟨HB.out.trans (hb9.mono HB.out.size)⟩
                have HT9 : Kp _ := ⟨HT2.out.below hb9⟩
                clear hr9 hb9 HLa HKw HB HT2 HLe
                go_wp2_with (with_reducible refine wpList_alloc (o := ⟨some 18, _, _, _, _, _⟩) tySeal rfl rfl ?_)
                intro w10 hk10 hb10 hs10
                have HK10 : Kp _ := ⟨hk10⟩
                have HB10 : Kp _ := ⟨hb10⟩
                clear hk10 hb10 hs10
                go_wp2_with (with_reducible refine wpList_storeAll (o := ⟨none, _, _, _, _, _⟩) (vs := rcL (decR p).num (decR p).blk A9 n9 c9 D9 m9 e9) rwSeal rfl (.tmp 18) (.tmp 104) rfl rfl HK10.out rfl rfl (rcL_one _ _ _ _ _ _ _ _) rfl ?_)
                intro w11 hk11 ho11
                have hb911 : Below w9.heap.size w9 w11 := HB10.out.trans (ho11.below (Nat.le_refl _))
                have HYx11 : Kp _ := ⟨hk11⟩
                have HY11 : Kp _ := ⟨HY9.out.next hb911 (Nat.le_refl _)⟩
                have HT11 : Kp _ := ⟨HT9.out.below hb911⟩
                have HB11 : Kp (Below w.heap.size w w11) := ⟨HB9.out.trans (hb911.mono HB9.out.size)⟩
                have HLb : Kp _ := ⟨HT11.out.swap.la⟩
                have HK11 : Kp _ := ⟨HKo.out w11 HB11.out⟩
                clear hk11 ho11 hb911 HK10 HB10 HY9 HB9 HT9
                go_wp2_with fail
                refine (pick8_any key KA kn kc ctr A2 (2 * k) c2 _ w11 HK11.out HLb.out (by have := HK100.out; omega) (by have := HCt.out; omega) HLm.out).mono ?_
                rintro x w13 ⟨A13, n13, c13, D13, m13, e13, rfl, hr13, hb13⟩
                rw [HP2.out] at hr13 ⊢
                have HZ13 : Kp _ := ⟨hr13⟩
                have HB13 : Kp (Below w.heap.size w w13) := ⟨HB11.out.trans (hb13.mono HB11.out.size)⟩
                have HY13 : Kp _ := ⟨HY11.out.next hb13 (Nat.le_refl _)⟩
                have HYx13 : Kp _ := ⟨HYx11.out.below hb13 HYx11.out.lt⟩
                obtain ⟨g18, hg18⟩ : ∃ x, x = w9.heap.size := ⟨_, rfl⟩
                rw [← hg18] at HYx13 ⊢
                clear hr13 hb13 HB11 HLb HK11 HY11 HYx11 HT11 HLm hg18
                go_wp2_with (with_reducible refine wpList_alloc (o := ⟨some 20, _, _, _, _, _⟩) tySeal rfl rfl ?_)
                intro w14 hk14 hb14 hs14
                have HK14 : Kp _ := ⟨hk14⟩
                have HB14 : Kp _ := ⟨hb14⟩
                clear hk14 hb14 hs14
                go_wp2_with (with_reducible refine wpList_storeAll (o := ⟨none, _, _, _, _, _⟩) (vs := rcL (decR p).num (decR p).blk A13 n13 c13 D13 m13 e13) rwSeal rfl (.tmp 20) (.tmp 112) rfl rfl HK14.out rfl rfl (rcL_one _ _ _ _ _ _ _ _) rfl ?_)
                intro w15 hk15 ho15
                have hb1315 : Below w13.heap.size w13 w15 := HB14.out.trans (ho15.below (Nat.le_refl _))
                have HYx15 : Kp _ := ⟨HYx13.out.below hb1315 HYx13.out.lt⟩
                have HZx15 : Kp _ := ⟨hk15⟩
                have HY15 : Kp _ := ⟨HY13.out.next hb1315 (Nat.le_refl _)⟩
                have HZ15 : Kp _ := ⟨HZ13.out.next hb1315 (Nat.le_refl _)⟩
                have HB15 : Kp (Below w.heap.size w w15) := ⟨HB13.out.trans (hb1315.mono HB13.out.size)⟩
                have HFu : Kp (ub = true → decF p = 0 ∧ (decR p).num = cn) := ⟨fun h => by rw [HPv.out, h]; exact ⟨rfl, rfl⟩⟩
                have HFn : Kp (ub = false → nb = true → decF p = 0 ∧ (decR p).num = ctr) := ⟨fun h h2 => by rw [HPv.out, h, h2]; exact ⟨rfl, rfl⟩⟩
                have HFz : Kp (ub = false → nb = false → decF p = 5) := ⟨fun h h2 => by rw [HPv.out, h, h2]; rfl⟩
                have hff : (decF p != decF p) = false := by simp
                clear hk15 ho15 hb1315 HK14 HB14 HYx13 HY13 HZ13 HB13 HPv
                generalize hF : decF p = F at *
                have HFp : Kp _ := ⟨hF⟩
                clear hF
                go_wp2_with (first
                  | (with_reducible refine wpList_loadAll_g (o := ⟨some 118, _, _, _, _, _⟩) rwSeal (by kernel_rfl) (.tmp 18) rfl rfl HYx15.out rfl ?_)
                  | (with_reducible refine wpList_loadAll_g (o := ⟨some 119, _, _, _, _, _⟩) rwSeal (by kernel_rfl) (.tmp 20) rfl rfl HZx15.out rfl ?_))
                refine (refsame_as true (decR p) (decR p) A9 n9 c9 D9 m9 e9 A13 n13 c13 D13 m13 e13 w15 HY15.out HZ15.out (sameB_rfl _)).mono ?_
                rintro x w16 ⟨rfl, hb16⟩
                have HYx16 : Kp _ := ⟨HYx15.out.below hb16 HYx15.out.lt⟩
                have HB16 : Kp (Below w.heap.size w w16) := ⟨HB15.out.trans (hb16.mono HB15.out.size)⟩
                obtain ⟨yn, hyn⟩ : ∃ y, (decR p).num = y := ⟨_, rfl⟩
                have y0 : w16.cell? ⟨g18, 0, none⟩ = some (.int .u64 yn) := by rw [← hyn]; exact HYx16.out.cell? 0
                rw [hyn] at HFu HFn
                have HYn : Kp _ := ⟨hyn⟩
                clear hb16 hff HYx15 HZx15 HY15 HZ15 HB15 hyn
                cases ub
                · cases nb
                  · obtain rfl : F = 5 := HFz.out rfl rfl
                    clear HFu HFn HFz
                    go_wp2_with fail
                    refine (known8_any w16).mono ?_
                    rintro xk wk ⟨rfl, hbk⟩
                    have HBk : Kp (Below w.heap.size w wk) := ⟨HB16.out.trans (hbk.mono HB16.out.size)⟩
                    clear hbk
                    go_wp2
                    go_ret
                    exact ⟨rfl, HBk.out⟩
                  · have hr := HFn.out rfl rfl
                    obtain ⟨rfl, rfl⟩ : F = 0 ∧ yn = ctr := hr
                    have ey : ((yn : Int) == (yn : Int)) = true := by simp
                    clear HFu HFn HFz
                    go_wp2_with fail
                    refine (known8_any w16).mono ?_
                    rintro xk wk ⟨rfl, hbk⟩
                    have HBk : Kp (Below w.heap.size w wk) := ⟨HB16.out.trans (hbk.mono HB16.out.size)⟩
                    clear hbk
                    go_wp2
                    go_ret
                    exact ⟨rfl, HBk.out⟩
                · have hr := HFu.out rfl
                  obtain ⟨rfl, rfl⟩ : F = 0 ∧ yn = cn := hr
                  have ey : ((yn : Int) == (yn : Int)) = true := by simp
                  clear HFu HFn HFz
                  cases nb
                  all_goals
                    go_wp2_with fail
                    refine (known8_any w16).mono ?_
                    rintro xk wk ⟨rfl, hbk⟩
                    have HBk : Kp (Below w.heap.size w wk) := ⟨HB16.out.trans (hbk.mono HB16.out.size)⟩
                    clear hbk
                    go_wp2
                    go_ret
                    exact ⟨rfl, HBk.out⟩
      · have hd : decide (Rt r) = false := decide_eq_false ht
        rw [hd]
        clear ht hd
        go_wp2_with fail
        refine (known8_any w3).mono ?_
        rintro xk wk ⟨rfl, hbk⟩
        have HBk : Kp (Below w.heap.size w wk) := ⟨HB3.out.trans (hbk.mono HB3.out.size)⟩
        clear hbk
        go_wp2
        go_ret
        exact ⟨rfl, HBk.out⟩
end Go.Proofs.Ytadpfbjpkbpanaa

namespace Go.Proofs.Ytadpfbjpkbpanaa
open Go.RowKit

/-- x[i:k] -/
theorem yields_cut_lh {P : Program} {ops : Array Oper} {op : Oper} {a : Act} {t e : TypeId} {z : Value} {bytes : Nat} (hw : Region.wanted op (yielded ops a.tmps) = true) (E : El P t e z bytes) (x lo hi : Operand) (ho : op.op = .slice t x (some lo) (some hi) none)
    {A : Option Addr} {n c : Nat} (hx : a.eval x = .slice A n c) {k1 k2 : IntKind} {I J : Int} (hlo : a.eval lo = .int k1 I) (hhi : a.eval hi = .int k2 J) (i k : Nat) (hI : I = i) (hJ : J = k) (hik : i ≤ k) (hk : k ≤ c) {A' : Option Addr} {n' c' : Nat} (hA' : (if c = i then A else A.map (·.add i)) = A') (hn' : k - i = n') (hc' : c - i = c') : Yields P ops op (.slice A' n' c') a := by
  subst hI hJ hA' hn' hc'
  refine .inl ⟨hw, fun w => ?_⟩
  have hrun := run_slice_lh (P := P) (w := w) t A n c E.ty' k1 k2 (i : Int) (k : Int) (by omega) (by omega) (by omega)
  rw [E.sizeOf] at hrun
  unfold execOp
  simp [ho, hx, hlo, hhi, run_sliceAt_slice (P := P) (w := w) t _ _ _ _ E.ty', hrun, Result.andThen, sliced]
end Go.Proofs.Ytadpfbjpkbpanaa
