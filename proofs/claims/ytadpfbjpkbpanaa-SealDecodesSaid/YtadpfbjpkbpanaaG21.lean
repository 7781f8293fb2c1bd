/- The contract of the document's Decode.
   The contract of the document's Choose. -/
import Derived.Test.YtadpfbjpkbpanaaG13
import Derived.Test.YtadpfbjpkbpanaaG18
import Derived.Test.YtadpfbjpkbpanaaG20
import Derived.Test.YtadpfbjpkbpanaaG19
namespace Go.Proofs.Ytadpfbjpkbpanaa
open Go.RowKit

theorem short_no {key l : List UInt8} (h : l.length < 48) : decO key l = none := decO_none _ _ fun ⟨r, h1, h2, h3⟩ => by
  have := encL_len key r h1
  rw [h3] at this
  omega
theorem wrong_no {key l : List UInt8} {b : Nat} (hb : getN ((l.drop 12).take 4) = b) (h : 4096 < b ∨ l.length ≠ 16 + (b + 7) / 8 + 32 * ((b + 15) / 16) + 32) : decO key l = none := decO_none _ _ fun ⟨r, h1, h2, h3⟩ => by
  have e := readL_enc key r h1 h2
  rw [h3] at e
  have eb : r.blk = (b : Int) := by rw [← e, ← hb]; rfl
  have hl := encL_len key r h1
  rw [h3, h2.sl, h2.su, eb] at hl
  have h4 := h2.hi
  rw [eb] at h4
  simp at hl
  omega
theorem read_whole {l : List UInt8} {b num G M : Nat} (hb : getN ((l.drop 12).take 4) = b) (hn : getN ((l.drop 4).take 8) = num) (hG : (b + 7) / 8 = G) (hM : (b + 15) / 16 = M) (hl : l.length = 16 + G + 32 * M + 32) :
    readL l = ⟨num, (b : Int), (l.drop 16).take G, cutsL (l.drop (16 + G)) M⟩ := by
  rw [readL_eq l b G M hb hG (by rw [List.length_drop, hl, hM]; omega), hn]

theorem Bs.srcCut {w : World} {B b o n c : Nat} {l : List UInt8} (h : Bs w B (some ⟨b, o, none⟩) n c l) (i k : Nat) : ∀ j u, (cells8 ((l.drop i).take k))[j]? = some u → w.cell? (Addr.add ⟨b, o + i, none⟩ j) = some u := fun j u hu => by
  obtain ⟨hj, rfl⟩ := cells8_some hu
  have h1 := h.news _ rfl (i + j) _ (cells8_at l (i + j) (by simp at hj; omega))
  simp only [List.getElem_take, List.getElem_drop]
  rw [Addr.add_lit] at h1 ⊢
  rw [Nat.add_assoc]
  exact h1
theorem own_belowN {w w' : World} {base size n : Nat} {e : TypeId} {v : Value} {xs : List Value} (h : w.ownsRow base e size v n xs) (hb : Below w.heap.size w w') : w'.ownsRow base e size v n xs :=
  h.kept (row := none) ⟨hb.os, hb.tape, hb.output, hb.size, fun j hj _ => hb.block j hj⟩ (by cases v.ownBlock <;> simp)
theorem cut_byte (l : List UInt8) (s k j P : Nat) (hP : P = s + k * 32 + j) (hj : j < 32) (h : P < l.length) : l[P] = (((l.drop s).drop (k * 32)).take 32).getD j 0 := by
  subst hP
  have h2 : j < (((l.drop s).drop (k * 32)).take 32).length := by simp; omega
  rw [List.getD_eq_getElem?_getD, List.getElem?_eq_getElem h2]
  simp [List.getElem_take, List.getElem_drop, Nat.add_assoc]

set_option maxRecDepth 100000 in
set_option maxHeartbeats 8000000 in
theorem refdecode_any (key : List UInt8) (KA : Option Addr) (kn kc : Nat) (A : Option Addr) (n c : Nat) (l : List UInt8) (w : World) (hK : Bs w w.heap.size KA kn kc key) (ha : Bs w w.heap.size A n c l) (hkn : kn ≤ 524288) (hn : n ≤ 1000000) :
    Calls Try.prog 24 #[.slice KA kn kc, .slice A n c] w fun x w' => ∃ A' n' c' D m e, x = .returned (.tuple #[rcV (decR (decO key l)) A' n' c' D m e, .int .i64 (decF (decO key l))]) ∧ Rs w' w'.heap.size A' n' c' D m e (decR (decO key l)) ∧ n' ≤ 1000000 ∧ m ≤ 1000000 ∧ Below w.heap.size w w' := by
  have hlen := ha.len
  have HK : Kp _ := ⟨hK⟩
  have HA : Kp _ := ⟨ha⟩
  have HN : Kp _ := ⟨hn⟩
  have HKn : Kp _ := ⟨hkn⟩
  clear hK ha hn hkn
  by_cases h16 : n < 16
  · have HD : Kp (decO key l = none) := ⟨short_no (by omega)⟩
    have d0 : decide ((n : Int) < 16) = true := decide_eq_true (by omega)
    clear hlen h16
    go_enter Try.func24, Try.ntmps24
    go_wp2_with (with_reducible refine wpList_alloc (o := ⟨some 4, _, _, _, _, _⟩) tySeal rfl rfl ?_)
    intro w1 hk1 hb1 hs1
    have HK1 : Kp _ := ⟨HK.out.next hb1 (Nat.le_refl _)⟩
    have HA1 : Kp _ := ⟨HA.out.next hb1 (Nat.le_refl _)⟩
    have HKr : Kp _ := ⟨hk1⟩
    have HB1 : Kp _ := ⟨hb1⟩
    clear hk1 hb1 hs1 HK HA
    go_wp2_with (with_reducible refine wpList_storeAll (o := ⟨none, _, _, _, _, _⟩) (vs := rcZ) rwSeal rfl (.tmp 4) (.tmp 17) rfl rfl HKr.out rfl rfl (rcL_one _ _ _ _ _ _ _ _) rfl ?_)
    intro w9 hk9 ho9
    have HK9 : Kp _ := ⟨hk9⟩
    have HB9 : Kp (Below w.heap.size w w9) := ⟨HB1.out.trans (ho9.below (Nat.le_refl _))⟩
    clear hk9 ho9
    go_wp2
    refine ret_two rfl rwSeal rfl rfl HK9.out rfl rfl ?_
    rw [HD.out]
    exact ⟨none, 0, 0, none, 0, 0, rfl, Rs.zero _ _, by omega, by omega, HB9.out⟩
  · obtain ⟨b, hb⟩ : ∃ x, x = getN ((l.drop 12).take 4) := ⟨_, rfl⟩
    obtain ⟨num, hnum⟩ : ∃ x, x = getN ((l.drop 4).take 8) := ⟨_, rfl⟩
    have hb32 : b < 4294967296 := by rw [hb]; exact blk_lt _
    have hn64 : num < 18446744073709551616 := by rw [hnum]; exact num_lt _
    have H16 : Kp (16 ≤ n) := ⟨by omega⟩
    have HBq : Kp (getN ((l.take 16).drop 12) % 18446744073709551616 = b) := ⟨by rw [List.drop_take, ← hb]; exact Nat.mod_eq_of_lt (by omega)⟩
    have HNq : Kp (getN ((l.take 12).drop 4) % 18446744073709551616 = num) := ⟨by rw [List.drop_take, ← hnum]; exact Nat.mod_eq_of_lt hn64⟩
    have HNum : Kp (getN ((l.drop 4).take 8) = num ∧ num < 18446744073709551616) := ⟨hnum.symm, hn64⟩
    have d0 : decide ((n : Int) < 16) = false := decide_eq_false (by omega)
    have wb : IntKind.i64.wrap (b : Int) = (b : Int) := by rw [IntKind.wrap_i64]; omega
    clear h16 hnum hn64
    by_cases h1 : 4096 < b
    · have HD : Kp (decO key l = none) := ⟨wrong_no hb.symm (.inl h1)⟩
      have d1 : decide (4096 < (b : Int)) = true := decide_eq_true (by omega)
      clear h1 hb hb32 hlen
      go_enter Try.func24, Try.ntmps24
      go_wp2_with (with_reducible refine wpList_alloc (o := ⟨some 4, _, _, _, _, _⟩) tySeal rfl rfl ?_)
      intro w1 hk1 hb1 hs1
      have HK1 : Kp _ := ⟨HK.out.next hb1 (Nat.le_refl _)⟩
      have HA1 : Kp _ := ⟨HA.out.next hb1 (Nat.le_refl _)⟩
      have HKr : Kp _ := ⟨hk1⟩
      have HB1 : Kp _ := ⟨hb1⟩
      clear hk1 hb1 hs1 HK HA
      go_wp2_with (with_reducible refine wpList_cut_lh (o := ⟨some 19, _, _, _, _, _⟩) el8 rfl (.tmp 18) _ _ rfl rfl HA1.out .i64 .i64 12 16 12 16 rfl rfl rfl rfl (by omega) (by have := H16.out; omega) ?_)
      intro A2 m2 c2 hbs
      go_wp2_with fail
      refine (refget_any A2 m2 c2 _ w1 w1.heap.size hbs).mono ?_
      rintro e w2 ⟨rfl, rfl⟩
      rw [HBq.out]
      clear hbs
      go_wp2_with (with_reducible refine wpList_storeAll (o := ⟨none, _, _, _, _, _⟩) (vs := rcZ) rwSeal rfl (.tmp 4) (.tmp 38) rfl rfl HKr.out rfl rfl (rcL_one _ _ _ _ _ _ _ _) rfl ?_)
      intro w9 hk9 ho9
      have HK9 : Kp _ := ⟨hk9⟩
      have HB9 : Kp (Below w.heap.size w w9) := ⟨HB1.out.trans (ho9.below (Nat.le_refl _))⟩
      clear hk9 ho9
      go_wp2
      refine ret_two rfl rwSeal rfl rfl HK9.out rfl rfl ?_
      rw [HD.out]
      exact ⟨none, 0, 0, none, 0, 0, rfl, Rs.zero _ _, by omega, by omega, HB9.out⟩
    · obtain ⟨G, hG⟩ : ∃ G, (b + 7) / 8 = G := ⟨_, rfl⟩
      obtain ⟨M, hM⟩ : ∃ M, (b + 15) / 16 = M := ⟨_, rfl⟩
      obtain ⟨b7, hb7⟩ : ∃ x, x = b + 7 := ⟨_, rfl⟩
      obtain ⟨G16, hG16⟩ : ∃ x, x = 16 + G := ⟨_, rfl⟩
      obtain ⟨M32, hM32⟩ : ∃ x, x = 32 * M := ⟨_, rfl⟩
      obtain ⟨S1, hS1⟩ : ∃ x, x = G16 + M32 := ⟨_, rfl⟩
      obtain ⟨S2, hS2⟩ : ∃ x, x = S1 + 32 := ⟨_, rfl⟩
      have d1 : decide (4096 < (b : Int)) = false := decide_eq_false (by omega)
      have w7 : IntKind.i64.wrap ((b : Int) + 7) = (b7 : Int) := by rw [IntKind.wrap_i64]; omega
      have q7 : (b7 : Int).tdiv 8 = (G : Int) := by rw [Int.tdiv_eq_ediv_of_nonneg (by omega)]; omega
      have q8 : (b7 : Int) / 8 = (G : Int) := by omega
      have wG : IntKind.i64.wrap (G : Int) = (G : Int) := by rw [IntKind.wrap_i64]; omega
      have w16 : IntKind.i64.wrap (16 + (G : Int)) = (G16 : Int) := by rw [IntKind.wrap_i64]; omega
      have w32 : IntKind.i64.wrap (32 * (M : Int)) = (M32 : Int) := by rw [IntKind.wrap_i64]; omega
      have wS1 : IntKind.i64.wrap ((G16 : Int) + (M32 : Int)) = (S1 : Int) := by rw [IntKind.wrap_i64]; omega
      have wS2 : IntKind.i64.wrap ((S1 : Int) + 32) = (S2 : Int) := by rw [IntKind.wrap_i64]; omega
      have HB4 : Kp (b ≤ 4096) := ⟨by omega⟩
      have HMM : Kp _ := ⟨hM⟩
      by_cases h2 : n = 16 + G + 32 * M + 32
      · have d2 : ((n : Int) != (S2 : Int)) = false := by simp; omega
        have HRead : Kp (readL l = ⟨num, (b : Int), (l.drop 16).take G, cutsL (l.drop (16 + G)) M⟩) := ⟨read_whole hb.symm HNum.out.1 hG hM (by omega)⟩
        have HS : Kp (n = G16 + M32 + 32 ∧ G16 = 16 + G ∧ M32 = 32 * M ∧ G ≤ 512 ∧ M ≤ 256) := ⟨by omega⟩
        have HLen : Kp (l.length = n) := ⟨hlen⟩
        clear h1 h2 hb hb32 hlen hG hM hb7 hG16 hM32 hS1 hS2
        go_enter Try.func24, Try.ntmps24
        go_wp2_with (with_reducible refine wpList_alloc (o := ⟨some 4, _, _, _, _, _⟩) tySeal rfl rfl ?_)
        intro w1 hk1 hb1 hs1
        have HK1 : Kp _ := ⟨HK.out.next hb1 (Nat.le_refl _)⟩
        have HA1 : Kp _ := ⟨HA.out.next hb1 (Nat.le_refl _)⟩
        have HKr : Kp _ := ⟨hk1⟩
        have HB1 : Kp _ := ⟨hb1⟩
        clear hk1 hb1 hs1 HK HA
        go_wp2_with (with_reducible refine wpList_cut_lh (o := ⟨some 19, _, _, _, _, _⟩) el8 rfl (.tmp 18) _ _ rfl rfl HA1.out .i64 .i64 12 16 12 16 rfl rfl rfl rfl (by omega) (by have := H16.out; omega) ?_)
        intro A2 m2 c2 hbs
        go_wp2_with fail
        refine (refget_any A2 m2 c2 _ w1 w1.heap.size hbs).mono ?_
        rintro e w2 ⟨rfl, rfl⟩
        rw [HBq.out]
        clear hbs
        go_wp2_with fail
        refine (rp16_any b M w1 HB4.out HMM.out).mono ?_
        rintro e w2 ⟨rfl, rfl⟩
        go_wp2_with (with_reducible refine wpList_cut_lh (o := ⟨some 40, _, _, _, _, _⟩) el8 rfl (.tmp 39) _ _ rfl rfl HA1.out .i64 .i64 4 12 4 12 rfl rfl rfl rfl (by omega) (by have := H16.out; omega) ?_)
        intro A3 m3 c3 hbs
        go_wp2_with fail
        refine (refget_any A3 m3 c3 _ w2 w2.heap.size hbs).mono ?_
        rintro e w3 ⟨rfl, rfl⟩
        rw [HNq.out]
        clear hbs d0 d1 d2 w32 wS1 wS2
        go_wp2_with (with_reducible refine wpList_alloc (o := ⟨some 7, _, _, _, _, _⟩) tySeal rfl rfl ?_)
        intro w4 hk4 hb4 hs4
        have HK4 : Kp _ := ⟨hk4⟩
        have HB4' : Kp _ := ⟨hb4⟩
        clear hk4 hb4 hs4
        go_wp2_with (with_reducible refine wpList_storeAll (o := ⟨none, _, _, _, _, _⟩) (vs := rcL num b none 0 0 none 0 0) rwSeal rfl (.tmp 7) (.tmp 43) rfl rfl HK4.out rfl rfl (rcL_one _ _ _ _ _ _ _ _) rfl ?_)
        intro w5 hk5 ho5
        obtain ⟨g7, hg7⟩ : ∃ x, x = w2.heap.size := ⟨_, rfl⟩
        have hb15 : Below w2.heap.size w2 w5 := HB4'.out.trans (ho5.below (Nat.le_refl _))
        have HK7 : Kp (Blk w5 w2.heap.size 26 (rcL num b none 0 0 none 0 0)) := ⟨hk5⟩
        have HK : Kp _ := ⟨HK1.out.next hb15 (Nat.le_refl _)⟩
        have HA : Kp _ := ⟨HA1.out.next hb15 (Nat.le_refl _)⟩
        have HG7 : Kp (w.heap.size < w2.heap.size) := ⟨HKr.out.lt⟩
        replace HKr : Kp _ := ⟨HKr.out.below hb15 HKr.out.lt⟩
        have HB : Kp (Below w.heap.size w w5) := ⟨HB1.out.trans (hb15.mono HB1.out.size)⟩
        rw [← hg7] at HK7 HG7 ⊢
        clear hk5 ho5 hb15 hg7 HK4 HB4' HK1 HA1 HB1
        obtain ⟨ba, bo, rfl, _, _⟩ := HA.out.cells (by have := H16.out; omega)
        have HCap : Kp (n ≤ c) := ⟨HA.out.cap⟩
        have HSl : Kp True := ⟨trivial⟩
        replace HK7 : Kp _ := ⟨HK7.out.drew⟩
        replace HK : Kp (Bs w5.drew w5.drew.heap.size KA kn kc key) := ⟨HK.out.below (Below.refl _ _).drew⟩
        replace HA : Kp (Bs w5.drew w5.drew.heap.size (some ⟨ba, bo, none⟩) n c l) := ⟨HA.out.below (Below.refl _ _).drew⟩
        replace HKr : Kp _ := ⟨HKr.out.drew⟩
        replace HB : Kp _ := ⟨HB.out.drew⟩
        go_wp2_with fail
        clear w7 q7 q8 wG w16
        refine wp_region_any (by kernel_rfl) ?_
        change wpAny _ _ _ _ _ _ _ w5.drew
        generalize w5.drew = wS at *
        refine wpAny_take (i := 0) (oi := ⟨some 48, _, _, _, _, _⟩) (v := ?_) rfl (by kernel_rfl) (by kernel_rfl) (by kernel_rfl) (fun _ _ _ h => h) (Or.inl ⟨by rfl, by intro w; go_simp; try rfl⟩) ?_
        try simp only [Act.put, List.setIfInBounds_toArray, List.set_cons_zero, List.set_cons_succ]
        refine wpAny_take (i := 2) (oi := ⟨some 50, _, _, _, _, _⟩) (v := ?_) rfl (by kernel_rfl) (by kernel_rfl) (by kernel_rfl) (fun _ _ _ h => h) (Or.inl ⟨by rfl, by intro w; go_simp; try rfl⟩) ?_
        try simp only [Act.put, List.setIfInBounds_toArray, List.set_cons_zero, List.set_cons_succ]
        refine wpAny_take (i := 3) (oi := ⟨some 51, _, _, _, _, _⟩) (v := ?_) rfl (by kernel_rfl) (by kernel_rfl) (by kernel_rfl) (fun _ _ _ h => h) (Or.inl ⟨by rfl, by intro w; go_simp; try rfl⟩) ?_
        try simp only [Act.put, List.setIfInBounds_toArray, List.set_cons_zero, List.set_cons_succ]
        refine wpAny_take (i := 4) (oi := ⟨some 52, _, _, _, _, _⟩) (v := _) rfl (by kernel_rfl) (by kernel_rfl) (by kernel_rfl) (fun _ _ _ h => h) ((yields_cut_lh (by rfl) el8 (.tmp 50) (.const (.int .i64 16)) (.tmp 51) rfl rfl rfl rfl 16 G16 rfl rfl (by have := HS.out; omega) (by have := HS.out; have := HCap.out; omega) (A' := some ⟨ba, bo + 16, none⟩) (n' := G) (c' := c - 16) (by rw [if_neg (by have := HS.out; have := HCap.out; omega)]; simp [Addr.add_lit]) (by have := HS.out; omega) rfl)) ?_
        try simp only [Act.put, List.setIfInBounds_toArray, List.set_cons_zero, List.set_cons_succ]
        refine wpAny_ready (rs := [1]) (by kernel_rfl) (by simp) ?_
        refine AllReady.cons (o := ⟨some 49, _, _, _, _, _⟩) rfl (fun K hK => ?_) AllReady.nil
        have ce : wS.cell? ⟨g7, 2, none⟩ = some (.slice none 0 0) := HK7.out.cell? 2
        go_simp
        refine hK _ _ ?_
        clear hK K ce
        try simp only [Act.put, List.setIfInBounds_toArray, List.set_cons_zero, List.set_cons_succ]
        refine wpAny_ready (rs := [5]) (by kernel_rfl) (by simp) ?_
        refine AllReady.cons (o := ⟨some 53, _, _, _, _, _⟩) rfl (fun K hK => ?_) AllReady.nil
        refine step_appK Try.underlying22 el8.info rfl (by decide) rfl (.tmp 49) (.tmp 52) rfl wS.heap.size _ 0 [] rfl (nil_own _ _ _ _) ⟨ba, bo + 16, none⟩ G (c - 16) (cells8 ((l.drop 16).take G)) rfl (by have := HS.out; have := HLen.out; rw [cells8_length]; simp; omega) (HA.out.srcCut 16 G) (cells8_one _) (by have := HS.out; simp only [maxLen]; omega) (by have := HS.out; omega) (Nat.le_refl _) ?_
        intro v' w62 hown' hb'
        refine hK _ _ ?_
        clear hK K
        try simp only [Act.put, List.setIfInBounds_toArray, List.set_cons_zero, List.set_cons_succ]
        rw [Nat.zero_add, List.nil_append] at hown'
        obtain ⟨FS, fs, rfl, hbsF⟩ := Bs.of_own hown'
        replace HSl : Kp _ := ⟨hbsF⟩
        replace HK7 : Kp _ := ⟨HK7.out.below hb' HK7.out.lt⟩
        replace HK : Kp _ := ⟨HK.out.next hb' (Nat.le_refl _)⟩
        replace HA : Kp _ := ⟨HA.out.next hb' (Nat.le_refl _)⟩
        replace HKr : Kp _ := ⟨HKr.out.below hb' HKr.out.lt⟩
        replace HB : Kp (Below w.heap.size w w62) := ⟨HB.out.trans (hb'.mono HB.out.size)⟩
        clear hown' hb' hbsF
        refine wpAny_take (i := 6) (oi := ⟨some 54, _, _, _, _, _⟩) (v := ?_) rfl (by kernel_rfl) (by kernel_rfl) (by kernel_rfl) (fun _ _ _ h => h) (Or.inl ⟨by rfl, by intro w; go_simp; try rfl⟩) ?_
        try simp only [Act.put, List.setIfInBounds_toArray, List.set_cons_zero, List.set_cons_succ]
        refine wpAny_ready (rs := [7]) (by kernel_rfl) (by simp) ?_
        refine AllReady.cons (o := ⟨none, _, _, _, _, _⟩) rfl (fun K hK => ?_) AllReady.nil
        have ce : w62.cell? ⟨g7, 2, none⟩ = some (.slice none 0 0) := HK7.out.cell? 2
        have fe := HK7.out.frozen 2
        go_simp
        refine hK _ _ ?_
        clear hK K ce fe
        try simp only [Act.put]
        have hg7 := HG7.out
        replace HSl : Kp _ := ⟨HSl.out.setrc (i := 2) HK7.out (.slice FS G fs)⟩
        replace HK : Kp _ := ⟨HK.out.setrc (i := 2) HK7.out (.slice FS G fs)⟩
        replace HA : Kp _ := ⟨HA.out.setrc (i := 2) HK7.out (.slice FS G fs)⟩
        replace HKr : Kp _ := ⟨HKr.out.other (p := ⟨g7, 2, none⟩) (by show w.heap.size ≠ g7; omega) (.slice FS G fs)⟩
        replace HB : Kp _ := ⟨HB.out.setCell (p := ⟨g7, 2, none⟩) (Nat.le_of_lt hg7) (.slice FS G fs)⟩
        have hsz : (w62.setCell ⟨g7, 2, none⟩ (.slice FS G fs)).heap.size = w62.heap.size := by simp
        have hlt7 : g7 < w62.heap.size := HK7.out.lt
        replace HK7 : Kp (Blk (w62.setCell ⟨g7, 2, none⟩ (.slice FS G fs)) g7 26 (rcL num b FS G fs none 0 0)) := ⟨HK7.out.set 2 (.slice FS G fs)⟩
        clear hg7
        obtain ⟨base, hbase⟩ : ∃ x, x = w62.heap.size := ⟨_, rfl⟩
        rw [← hbase] at HSl HK HA hsz hlt7
        have HGz : Kp (w.heap.size < g7 ∧ g7 < base) := ⟨HG7.out, hlt7⟩
        have HSz : Kp (base ≤ (w62.setCell ⟨g7, 2, none⟩ (.slice FS G fs)).heap.size) := ⟨by rw [hsz]; exact Nat.le_refl _⟩
        clear hbase hsz hlt7
        generalize (w62.setCell ⟨g7, 2, none⟩ (.slice FS G fs)) = wL at *
        refine wpAny_done (by kernel_rfl) ?_ _
        obtain ⟨sl, hsl⟩ : ∃ x, x = (l.drop 16).take G := ⟨_, rfl⟩
        obtain ⟨rs, hrs⟩ : ∃ x, x = l.drop (16 + G) := ⟨_, rfl⟩
        rw [← hsl, ← hrs] at HRead
        rw [← hsl] at HSl
        have HRs : Kp (l.drop (16 + G) = rs) := ⟨hrs.symm⟩
        have HRn : Kp (rs.length = 32 * M + 32) := ⟨by rw [hrs, List.length_drop, HLen.out]; have := HS.out; omega⟩
        have HWide : Kp (∀ k, k ≤ M → ∀ d ∈ cutsL rs k, d.length = 32) := ⟨fun k hk => cutsL_wide _ _ (by have := HRn.out; omega)⟩
        clear hsl hrs
        go_wp2
        go_loopw [8, 9] (fun t i wr => ∃ (k T : Nat) (V : Option Addr) (cv : Nat), k ≤ M ∧ t = .int .i64 T ∧ i = .int .i64 k ∧ Kp (T = G16 + k * 32) ∧ Kp (Blk wr g7 26 (rcL num b FS G fs V k cv)) ∧
          Kp (wr.ownsRow base 57 32 (.slice V k cv) k (cells8 (cutsL rs k).flatten)) ∧ Kp (Bs wr base FS G fs sl) ∧ Kp (Bs wr base (some ⟨ba, bo, none⟩) n c l) ∧ Kp (Bs wr base KA kn kc key) ∧ Kp (Blk wr w.heap.size 26 rcZ) ∧ Kp (Below w.heap.size w wr) ∧ Kp (base ≤ wr.heap.size)) (fun _ i _ => M - (intOf i).toNat)
        case atStart => exact ⟨0, G16, none, 0, Nat.zero_le _, rfl, rfl, ⟨by omega⟩, HK7, ⟨nil_own _ _ _ _⟩, HSl, HA, HK, HKr, HB, HSz⟩
        case round =>
          clear HK7 HSl HA HK HKr HB HSz
          obtain ⟨k, T, V, cv, hk, rfl, rfl, HT, HK7, HO, HSl, HA, HK, HKr, HB, HSz⟩ := hrel
          by_cases hlt : k < M
          · have hM256 : M ≤ 256 := HS.out.2.2.2.2
            have hT5 : T ≤ 10000 := by have := HT.out; have := HS.out; omega
            have HLT : Kp (k < M) := ⟨hlt⟩
            have HDl : Kp (((rs.drop (k * 32)).take 32).length = 32) := ⟨by have h1 := HRn.out; simp only [List.length_take, List.length_drop]; omega⟩
            have HByte : Kp (∀ j P, P = T + j → j < 32 → ∀ h : P < l.length, l[P] = ((rs.drop (k * 32)).take 32).getD j 0) := ⟨fun j P hP hj h => by rw [← HRs.out]; exact cut_byte l (16 + G) k j P (by have := HT.out; have := HS.out; omega) hj h⟩
            have HTk : Kp (cells8 (cutsL rs k).flatten ++ cells8 ((rs.drop (k * 32)).take 32) = cells8 (cutsL rs (k + 1)).flatten) := ⟨by rw [cutsL_succ, List.flatten_append, cells8_append]; simp⟩
            generalize (rs.drop (k * 32)).take 32 = d at *
            go_wp2_with fail
            refine (rp16_any b M wr HB4.out HMM.out).mono ?_
            rintro e w3 ⟨rfl, rfl⟩
            go_wp2_with (with_reducible refine wpList_alloc (o := ⟨some 10, _, _, _, _, _⟩) tyDig rfl rfl ?_)
            intro w10 hk10 hb10 hs10
            have HK10 : Kp _ := ⟨hk10⟩
            have HB10 : Kp _ := ⟨hb10⟩
            clear hk10 hb10 hs10
            go_wp2_with (with_reducible refine wpList_storeAll (o := ⟨none, _, _, _, _, _⟩) (vs := zero32) rwDig rfl (.tmp 10) (.tmp 61) rfl rfl HK10.out ?_ ?_ ?_ ?_ ?_)
            · rfl
            · rfl
            · exact cells8_one _
            · rfl
            intro w11 hk11 ho11
            obtain ⟨gt, hgt⟩ : ∃ x, x = w3.heap.size := ⟨_, rfl⟩
            have HK11 : Kp (Blk w11 w3.heap.size 57 (cells8 (outAt d 0))) := ⟨by
              have e1 : zero32 = cells8 (outAt d 0) := by simp [outAt, zero32, cells8]
              rw [← e1]; exact hk11⟩
            have HB11 : Kp (Below w3.heap.size w3 w11) := ⟨HB10.out.trans (ho11.below (Nat.le_refl _))⟩
            replace HSz : Kp (base ≤ w3.heap.size) := HSz
            have HK7' : Kp _ := ⟨HK7.out.below HB11.out HK7.out.lt⟩
            have HSl' : Kp _ := ⟨HSl.out.below' HB11.out HSz.out⟩
            have HA' : Kp _ := ⟨HA.out.below' HB11.out HSz.out⟩
            have HKy' : Kp _ := ⟨HK.out.below' HB11.out HSz.out⟩
            have HKr' : Kp _ := ⟨HKr.out.below HB11.out HKr.out.lt⟩
            have HB' : Kp (Below w.heap.size w w11) := ⟨HB.out.trans (HB11.out.mono HB.out.size)⟩
            have HLo : Kp (ba < w3.heap.size) := ⟨by obtain ⟨_, _, e, h, _⟩ := HA.out.cells (by have := H16.out; omega); cases e; have := HSz.out; omega⟩
            have HOx : Kp (∀ W, Below w3.heap.size w11 W → W.ownsRow base 57 32 (.slice V k cv) k (cells8 (cutsL rs k).flatten)) := ⟨fun W h => own_belowN HO.out (HB11.out.trans h)⟩
            rw [← hgt] at HK11 HSz HB11 HLo HOx ⊢
            have HG7t : Kp (g7 < gt ∧ w.heap.size < gt) := ⟨by have := HGz.out; have := HSz.out; omega⟩
            clear hk11 ho11 HK10 HB10 HK7 HO HSl HA HK HKr HB
            clear hgt
            go_wp2
            go_loopw [11] (fun i wq => ∃ j : Nat, j ≤ 32 ∧ i = .int .i64 j ∧ Kp (Blk wq gt 57 (cells8 (outAt d j))) ∧ Kp (Only gt w11 wq)) (fun v _ => 32 - (intOf v).toNat)
            case atStart => exact ⟨0, Nat.zero_le _, rfl, HK11, ⟨Only.refl _ _⟩⟩
            case round =>
              clear HK11
              obtain ⟨j, hj, rfl, HKj, HOj⟩ := hrel
              by_cases hlt2 : j < 32
              · have hPn : T + j < n := by have := HT.out; have := HS.out; have := HLT.out; omega
                have HAq : Kp (Bs wr base (some ⟨ba, bo, none⟩) n c l) := ⟨HA'.out.grown (g := some gt) (fun x hx _ => HOj.out.block x (fun e => hx (by rw [e]))) (fun ad h _ e => by have := HLo.out; cases h; have := Option.some.inj e; simp at this; omega)⟩
                obtain ⟨P, hP⟩ : ∃ P, P = T + j := ⟨_, rfl⟩
                rw [← hP] at hPn
                have hPl : P < l.length := by rw [HLen.out]; exact hPn
                obtain ⟨b', o', e', _, hc⟩ := HAq.out.cell hPn
                cases e'
                have hby := HByte.out j P hP hlt2 hPl
                rw [hby] at hc
                have hwP : IntKind.i64.wrap ((T : Int) + (j : Int)) = (P : Int) := by rw [IntKind.wrap_i64]; omega
                have hle : j < (cells8 (outAt d j)).length := by rw [cells8_length, outAt_length d HDl.out j hj]; exact hlt2
                have hco := HKj.out.cell hle
                have hfo := HKj.out.frozen j
                have HSet : Kp _ := ⟨outAt_set d HDl.out j hlt2⟩
                generalize d.getD j 0 = y at *
                generalize hq : (cells8 (outAt d j))[j]'hle = q at hco
                clear hq hle hby hPl hP
                go_wp2
                refine ⟨⟨j + 1, by omega, by go_num, ?_, ⟨HOj.out.trans (Only.setCell wr ⟨gt, _, none⟩ _)⟩⟩, by simp [intOf]; omega⟩
                have h3 := HKj.out.set j (.int .u8 (y.toNat : Int))
                rw [HSet.out] at h3
                exact ⟨h3⟩
              · obtain rfl : j = 32 := by omega
                have HKd : Kp (Blk wr gt 57 (cells8 d)) := ⟨by have h1 := HKj.out; rw [outAt_end d HDl.out] at h1; exact h1⟩
                have hb1 : Below gt w11 wr := HOj.out.below (Nat.le_refl _)
                have hgz := HGz.out
                have hsz := HSz.out
                have HSr : Kp (base ≤ gt ∧ base ≤ wr.heap.size) := ⟨⟨hsz, by have := HKd.out.lt; omega⟩⟩
                have HO : Kp _ := ⟨HOx.out wr hb1⟩
                have HK7 : Kp _ := ⟨HK7'.out.below hb1 (by omega)⟩
                have HSl : Kp _ := ⟨HSl'.out.below' hb1 hsz⟩
                have HA : Kp _ := ⟨HA'.out.below' hb1 hsz⟩
                have HK : Kp _ := ⟨HKy'.out.below' hb1 hsz⟩
                have HKr : Kp _ := ⟨HKr'.out.below hb1 (by omega)⟩
                have HB : Kp (Below w.heap.size w wr) := ⟨HB'.out.trans (hb1.mono (by omega))⟩
                have HD32 : Kp ((cells8 d).length = 32) := ⟨by rw [cells8_length, HDl.out]⟩
                clear hb1 hgz hsz HOx HK7' HSl' HA' HKy' HKr' HB' HKj HOj HB11 HLo HByte hlt2 hj
                have c3 : wr.cell? ⟨g7, 3, none⟩ = some (.slice V k cv) := HK7.out.cell? 3
                have HOa : Kp ((wr.alloc (.cells (cells8 d).toArray 57)).ownsRow base 57 32 (.slice V k cv) k (cells8 (cutsL rs k).flatten)) := ⟨World.ownsRow.alloc HO.out (.cells (cells8 d).toArray 57)⟩
                have HSrc : Kp (∀ j u, (cells8 d)[j]? = some u → (wr.alloc (.cells (cells8 d).toArray 57)).cell? (Addr.add ⟨wr.heap.size, 0, none⟩ j) = some u) := ⟨fun j u hu => by rw [Addr.add_lit, (Blk.new wr 57 (cells8 d)).cell? (0 + j), Nat.zero_add]; exact hu⟩
                have HSa : Kp (base ≤ (wr.alloc (.cells (cells8 d).toArray 57)).heap.size) := ⟨by have := HSr.out.2; simp; omega⟩
                have HBa : Kp (Below base wr (wr.alloc (.cells (cells8 d).toArray 57))) := ⟨(Below.refl _ _).alloc HSr.out.2 _⟩
                clear HO
                go_wp2_with (first
                  | (with_reducible refine wpList_loadAll (o := ⟨some 76, _, _, _, _, _⟩) rwDig rfl (.tmp 10) rfl rfl HKd.out HD32.out ?_)
                  | (with_reducible refine wpList_buildD (o := ⟨some 77, _, _, _, _, _⟩) rfl (.tmp 76) rfl d rfl HDl.out ?_)
                  | (at_builtin; refine wpList_appK Try.underlying24 infDig zDig_size (by decide) rfl _ _ rfl base _ k _ rfl HOa.out ⟨wr.heap.size, 0, none⟩ 1 1 (cells8 d) rfl HD32.out HSrc.out (cells8_one _) (by simp only [maxLen]; omega) (by omega) HSa.out ?_))
                intro v' w14 hown' hb'
                rw [HTk.out] at hown'
                obtain ⟨V2, cv2, rfl⟩ := own_form' hown'
                have hball := HBa.out.trans hb'
                have hgz := HGz.out
                have c4 : w14.cell? ⟨g7, 3, none⟩ = some (.slice V k cv) := (HK7.out.below hball hgz.2).cell? 3
                have f4 : w14.frozen? ⟨g7, 3, none⟩ = false := (HK7.out.below hball hgz.2).frozen 3
                have HZ : Kp (Blk w14 g7 26 (rcL num b FS G fs V k cv)) := ⟨HK7.out.below hball hgz.2⟩
                have XK7 : Kp (Blk (w14.setCell ⟨g7, 3, none⟩ (.slice V2 (k + 1) cv2)) g7 26 (rcL num b FS G fs V2 (k + 1) cv2)) := ⟨HZ.out.set 3 (.slice V2 (k + 1) cv2)⟩
                have XO : Kp _ := ⟨ownsRow_setCell_below hown' (a := ⟨g7, 3, none⟩) hgz.2 (.slice V2 (k + 1) cv2)⟩
                have XSl : Kp _ := ⟨(HSl.out.below' hball (Nat.le_refl _)).setrc (i := 3) HZ.out (.slice V2 (k + 1) cv2)⟩
                have XA : Kp _ := ⟨(HA.out.below' hball (Nat.le_refl _)).setrc (i := 3) HZ.out (.slice V2 (k + 1) cv2)⟩
                have XK : Kp _ := ⟨(HK.out.below' hball (Nat.le_refl _)).setrc (i := 3) HZ.out (.slice V2 (k + 1) cv2)⟩
                have XKr : Kp _ := ⟨(HKr.out.below hball (by omega)).other (p := ⟨g7, 3, none⟩) (by show w.heap.size ≠ g7; omega) (.slice V2 (k + 1) cv2)⟩
                have XB : Kp _ := ⟨(HB.out.trans (hball.mono (by omega))).setCell (p := ⟨g7, 3, none⟩) (Nat.le_of_lt hgz.1) (.slice V2 (k + 1) cv2)⟩
                have XS : Kp (base ≤ (w14.setCell ⟨g7, 3, none⟩ (.slice V2 (k + 1) cv2)).heap.size) := ⟨by have h1 := HSr.out.2; have h2 := hball.size; simp; omega⟩
                obtain ⟨T32, hT32⟩ : ∃ x, x = T + 32 := ⟨_, rfl⟩
                have w32 : IntKind.i64.wrap ((T : Int) + 32) = (T32 : Int) := by rw [IntKind.wrap_i64]; omega
                have HT32 : Kp (T32 = G16 + (k + 1) * 32) := ⟨by have := HT.out; omega⟩
                clear hT32 hown' hb' hball hgz HZ HK7 HSl HA HK HKr HB HSr HSrc HOa HBa HSa HKd c3
                go_wp2
                go_roundw
                case rel => exact ⟨k + 1, T32, V2, cv2, by omega, rfl, by go_num, HT32, XK7, XO, XSl, XA, XK, XKr, XB, XS⟩
                case measure => simp [intOf]; omega
          · obtain rfl : k = M := by omega
            have HRr : Kp (Rs wr wr.heap.size FS G fs V k cv ⟨num, (b : Int), sl, cutsL rs k⟩) := ⟨⟨HNum.out.2, ⟨by show -9223372036854775808 ≤ (b : Int); omega, by show (b : Int) < 9223372036854775808; have := HB4.out; omega⟩, HSl.out.more HSz.out, Ds.of_own' (HWide.out k (Nat.le_refl _)) HO.out⟩⟩
            have HKw : Kp (Bs wr wr.heap.size KA kn kc key) := ⟨HK.out.more HSz.out⟩
            have HAw : Kp (Bs wr wr.heap.size (some ⟨ba, bo, none⟩) n c l) := ⟨HA.out.more HSz.out⟩
            have HE : Kp (¬ IsEnc key l ⟨num, (b : Int), sl, cutsL rs k⟩ → decO key l = none) := ⟨by have h := @dec_no key l; rwa [HRead.out] at h⟩
            have HI : Kp (Rg ⟨num, (b : Int), sl, cutsL rs k⟩ → Rt ⟨num, (b : Int), sl, cutsL rs k⟩ → encL key ⟨num, (b : Int), sl, cutsL rs k⟩ = l → decO key l = some ⟨num, (b : Int), sl, cutsL rs k⟩) := ⟨fun h1 h2 h3 => decO_of key l _ ⟨h1, h2, h3⟩⟩
            have HGM : Kp (G ≤ 1000000 ∧ k ≤ 1000000) := ⟨by have := HS.out; omega⟩
            clear HK HA HSl HO HSz HRead HRs HRn HWide hlt hk
            generalize cutsL rs k = su at *
            go_wp2_with fail
            refine (rp16_any b k wr HB4.out HMM.out).mono ?_
            rintro e w3 ⟨rfl, rfl⟩
            go_wp2_with (with_reducible refine wpList_loadAll (o := ⟨some 84, _, _, _, _, _⟩) rwSeal rfl (.tmp 7) rfl rfl HK7.out rfl ?_)
            refine (refencode_any key KA kn kc ⟨num, (b : Int), sl, su⟩ FS G fs V k cv w3 HKw.out HRr.out HKn.out HGM.out.1).mono ?_
            rintro x w5 ⟨hb5, hcase⟩
            have HKx5 : Kp _ := ⟨HK7.out.below hb5 HK7.out.lt⟩
            have HA5 : Kp _ := ⟨HAw.out.next hb5 (Nat.le_refl _)⟩
            have HR5 : Kp _ := ⟨HRr.out.next hb5 (Nat.le_refl _)⟩
            have HKr5 : Kp _ := ⟨HKr.out.below hb5 HKr.out.lt⟩
            have HB5 : Kp (Below w.heap.size w w5) := ⟨HB.out.trans (hb5.mono HB.out.size)⟩
            clear hb5 HK7 HAw HRr HKr HB HKw
            rcases hcase with ⟨ht, rfl⟩ | ⟨ht, Ae, ce, rfl, hbe⟩
            · have HD : Kp (decO key l = none) := ⟨HE.out fun h => ht h.2.1⟩
              clear ht
              go_wp2_with (with_reducible refine wpList_storeAll (o := ⟨none, _, _, _, _, _⟩) (vs := rcZ) rwSeal rfl (.tmp 4) (.tmp 97) rfl rfl HKr5.out rfl rfl (rcL_one _ _ _ _ _ _ _ _) rfl ?_)
              intro w9 hk9 ho9
              have HK9 : Kp _ := ⟨hk9⟩
              have HB9 : Kp (Below w.heap.size w w9) := ⟨HB5.out.trans (ho9.below (Nat.le_refl _))⟩
              clear hk9 ho9
              go_wp2
              refine ret_two rfl rwSeal rfl rfl HK9.out rfl rfl ?_
              rw [HD.out]
              exact ⟨none, 0, 0, none, 0, 0, rfl, Rs.zero _ _, by omega, by omega, HB9.out⟩
            · have HT' : Kp _ := ⟨ht⟩
              have e1 := hbe.text Try.underlying22 Try.underlying5 Try.underlying9
              have e2 := HA5.out.text Try.underlying22 Try.underlying5 Try.underlying9
              clear ht hbe
              by_cases hq : encL key ⟨num, (b : Int), sl, su⟩ = l
              · have HD : Kp (decO key l = some ⟨num, (b : Int), sl, su⟩) := ⟨HI.out (rg_of HR5.out) HT'.out hq⟩
                rw [hq] at e1 ⊢
                have hbq : (l == l) = true := by simp
                clear hq
                go_wp2_with (first
                  | (with_reducible refine wpList_loadAll (o := ⟨some 98, _, _, _, _, _⟩) rwSeal rfl (.tmp 7) rfl rfl HKx5.out rfl ?_)
                  | (with_reducible refine wpList_storeAll (o := ⟨none, _, _, _, _, _⟩) (vs := rcL num b FS G fs V k cv) rwSeal rfl (.tmp 4) (.tmp 98) rfl rfl HKr5.out rfl rfl (rcL_one _ _ _ _ _ _ _ _) rfl ?_))
                intro w9 hk9 ho9
                have HK9 : Kp _ := ⟨hk9⟩
                have HB9 : Kp (Below w.heap.size w w9) := ⟨HB5.out.trans (ho9.below (Nat.le_refl _))⟩
                have HR9 : Kp (Rs w9 w9.heap.size FS G fs V k cv ⟨num, (b : Int), sl, su⟩) := ⟨HR5.out.over ho9 HKr5.out⟩
                clear hk9 ho9
                go_wp2
                refine ret_two rfl rwSeal rfl rfl HK9.out rfl rfl ?_
                rw [HD.out]
                exact ⟨FS, G, fs, V, k, cv, rfl, HR9.out, HGM.out.1, HGM.out.2, HB9.out⟩
              · have HD : Kp (decO key l = none) := ⟨HE.out fun h => hq h.2.2⟩
                have hbq : (encL key ⟨num, (b : Int), sl, su⟩ == l) = false := by rw [Bool.eq_false_iff]; exact fun h => hq (eq_of_beq h)
                generalize encL key ⟨num, (b : Int), sl, su⟩ = E at *
                clear hq
                go_wp2_with (with_reducible refine wpList_storeAll (o := ⟨none, _, _, _, _, _⟩) (vs := rcZ) rwSeal rfl (.tmp 4) (.tmp 97) rfl rfl HKr5.out rfl rfl (rcL_one _ _ _ _ _ _ _ _) rfl ?_)
                intro w9 hk9 ho9
                have HK9 : Kp _ := ⟨hk9⟩
                have HB9 : Kp (Below w.heap.size w w9) := ⟨HB5.out.trans (ho9.below (Nat.le_refl _))⟩
                clear hk9 ho9
                go_wp2
                refine ret_two rfl rwSeal rfl rfl HK9.out rfl rfl ?_
                rw [HD.out]
                exact ⟨none, 0, 0, none, 0, 0, rfl, Rs.zero _ _, by omega, by omega, HB9.out⟩
      · have d2 : ((n : Int) != (S2 : Int)) = true := by simp; omega
        have HD : Kp (decO key l = none) := ⟨wrong_no hb.symm (.inr (by rw [hG, hM]; omega))⟩
        clear h1 h2 hb hb32 hlen hG hM hb7 hG16 hM32 hS1 hS2
        go_enter Try.func24, Try.ntmps24
        go_wp2_with (with_reducible refine wpList_alloc (o := ⟨some 4, _, _, _, _, _⟩) tySeal rfl rfl ?_)
        intro w1 hk1 hb1 hs1
        have HK1 : Kp _ := ⟨HK.out.next hb1 (Nat.le_refl _)⟩
        have HA1 : Kp _ := ⟨HA.out.next hb1 (Nat.le_refl _)⟩
        have HKr : Kp _ := ⟨hk1⟩
        have HB1 : Kp _ := ⟨hb1⟩
        clear hk1 hb1 hs1 HK HA
        go_wp2_with (with_reducible refine wpList_cut_lh (o := ⟨some 19, _, _, _, _, _⟩) el8 rfl (.tmp 18) _ _ rfl rfl HA1.out .i64 .i64 12 16 12 16 rfl rfl rfl rfl (by omega) (by have := H16.out; omega) ?_)
        intro A2 m2 c2 hbs
        go_wp2_with fail
        refine (refget_any A2 m2 c2 _ w1 w1.heap.size hbs).mono ?_
        rintro e w2 ⟨rfl, rfl⟩
        rw [HBq.out]
        clear hbs
        go_wp2_with fail
        refine (rp16_any b M w1 HB4.out HMM.out).mono ?_
        rintro e w2 ⟨rfl, rfl⟩
        go_wp2_with (with_reducible refine wpList_storeAll (o := ⟨none, _, _, _, _, _⟩) (vs := rcZ) rwSeal rfl (.tmp 4) (.tmp 38) rfl rfl HKr.out rfl rfl (rcL_one _ _ _ _ _ _ _ _) rfl ?_)
        intro w9 hk9 ho9
        have HK9 : Kp _ := ⟨hk9⟩
        have HB9 : Kp (Below w.heap.size w w9) := ⟨HB1.out.trans (ho9.below (Nat.le_refl _))⟩
        clear hk9 ho9
        go_wp2
        refine ret_two rfl rwSeal rfl rfl HK9.out rfl rfl ?_
        rw [HD.out]
        exact ⟨none, 0, 0, none, 0, 0, rfl, Rs.zero _ _, by omega, by omega, HB9.out⟩
end Go.Proofs.Ytadpfbjpkbpanaa

namespace Go.Proofs.Ytadpfbjpkbpanaa
open Go.RowKit

theorem chooseO_first {key : List UInt8} {ctr : Nat} {ls : List (List UInt8)} {r : Rc} (hf : ctr + 1 < 18446744073709551616) (h : pickO key (ctr + 1) ls = some r) : chooseO key ctr ls = some r := by
  unfold chooseO; rw [if_pos hf, h]; rfl
theorem chooseO_second {key : List UInt8} {ctr : Nat} {ls : List (List UInt8)} (h : nextO key ctr ls = none) : chooseO key ctr ls = pickO key ctr ls := by
  unfold nextO at h
  unfold chooseO
  rw [h]; rfl

set_option maxRecDepth 100000 in
set_option maxHeartbeats 8000000 in
theorem refpick_any (key : List UInt8) (KA : Option Addr) (kn kc : Nat) (ctr : Nat) (B : Option Addr) (m d : Nat) (ls : List (List UInt8)) (w : World) (hK : Bs w w.heap.size KA kn kc key) (hB : Ls w w.heap.size B m d ls) (hkn : kn ≤ 524288) (hc : ctr < 18446744073709551616) (hl : ∀ x ∈ ls, x.length ≤ 1000000) :
    Calls Try.prog 26 #[.slice KA kn kc, .int .u64 ctr, .slice B m d] w fun x w' => ∃ A' n' c' D m' e', x = .returned (.tuple #[rcV (decR (chooseO key ctr ls)) A' n' c' D m' e', .int .i64 (decF (chooseO key ctr ls))]) ∧ Rs w' w'.heap.size A' n' c' D m' e' (decR (chooseO key ctr ls)) ∧ Below w.heap.size w w' := by
  have HLl : Kp _ := ⟨hl⟩
  have HKn : Kp _ := ⟨hkn⟩
  have HLm : Kp (ls.length = m) := ⟨hB.len⟩
  have hm63 := hB.le
  have HCt : Kp _ := ⟨hc⟩
  have HK : Kp _ := ⟨hK⟩
  have HB : Kp _ := ⟨hB⟩
  clear hK hB hkn hl hc
  go_enter Try.func26, Try.ntmps26
  first | go_step3 | skip
  go_wp2_with (with_reducible refine wpList_alloc (o := ⟨some 6, _, _, _, _, _⟩) tySeal rfl rfl ?_)
  intro w1 hk1 hb1 hs1
  have HKr : Kp _ := ⟨hk1⟩
  have HB1 : Kp (Below w.heap.size w w1) := ⟨hb1⟩
  have HKo : Kp (∀ W, Below w1.heap.size w1 W → Bs W W.heap.size KA kn kc key) := ⟨fun W h => HK.out.next (HB1.out.trans (h.mono HB1.out.size)) (Nat.le_refl _)⟩
  have HLo : Kp (∀ W, Below w1.heap.size w1 W → Ls W W.heap.size B m d ls) := ⟨fun W h => HB.out.next (HB1.out.trans (h.mono HB1.out.size)) (Nat.le_refl _)⟩
  clear hk1 hb1 hs1 HK HB
  go_wp2
  try go_step3
  go_wp2
  go_loopw [8] (fun i wr => ∃ k : Int, (k = 0 ∨ k = 1 ∨ k = 2) ∧ i = .int .i64 k ∧ Kp (1 ≤ k → nextO key ctr ls = none) ∧ Kp (2 ≤ k → pickO key ctr ls = none) ∧ Kp (Below w1.heap.size w1 wr)) (fun i _ => 2 - (intOf i).toNat)
  case atStart => exact ⟨0, by omega, rfl, ⟨fun h => absurd h (by decide)⟩, ⟨fun h => absurd h (by decide)⟩, ⟨Below.refl _ _⟩⟩
  case round =>
    obtain ⟨k, hk, rfl, HNx, HPx, HW⟩ := hrel
    rcases hk with rfl | rfl | rfl
    · by_cases hf : ctr + 1 < 18446744073709551616
      · obtain ⟨N, hN⟩ : ∃ N, N = ctr + 1 := ⟨_, rfl⟩
        have wc : IntKind.u64.wrap ((ctr : Int) + 1) = (N : Int) := by rw [IntKind.wrap_u64]; omega
        have hNc : ¬ N < ctr := by omega
        have HRes : Kp (∀ r, pickO key N ls = some r → chooseO key ctr ls = some r) := ⟨fun r h => chooseO_first hf (by rw [← hN]; exact h)⟩
        have HNn : Kp (pickO key N ls = none → nextO key ctr ls = none) := ⟨fun h => by unfold nextO; rw [if_pos hf, ← hN]; exact h⟩
        clear hN hf HNx HPx
        go_wp2
        go_loopw [10] (fun j wq => ∃ i : Nat, i ≤ m ∧ j = .int .i64 i ∧ Kp (pickO key N (ls.take i) = none) ∧ Kp (Below w1.heap.size w1 wq)) (fun j _ => m - (intOf j).toNat)
        case atStart => exact ⟨0, Nat.zero_le _, rfl, ⟨pickO_zero _ _ _⟩, HW⟩
        case round =>
          clear HW
          obtain ⟨i, hi, rfl, HPk, HW⟩ := hrel
          by_cases hlt : i < m
          · have hkl : i < ls.length := by rw [HLm.out]; exact hlt
            obtain ⟨b1, o1, A1, n1, c1, rfl, _, hcell, hbs⟩ := (HLo.out wr HW.out).at hlt
            have HBs : Kp _ := ⟨hbs⟩
            have HN1 : Kp (n1 ≤ 1000000) := ⟨by have h1 := hbs.len; have h2 := HLl.out _ (List.getElem_mem hkl); omega⟩
            have HKw : Kp _ := ⟨HKo.out wr HW.out⟩
            have HPs : Kp _ := ⟨pickO_succ key N ls i hkl⟩
            have HAll : Kp (∀ r, pickO key N (ls.take (i + 1)) = some r → pickO key N ls = some r) := ⟨fun r h => pickO_all h⟩
            generalize ls[i] = x at *
            clear hbs
            go_wp2_with fail
            refine (refdecode_any key KA kn kc A1 n1 c1 x wr HKw.out HBs.out HKn.out HN1.out).mono ?_
            rintro xx w3 ⟨A3, n3, c3, D3, m3, e3, rfl, hr3, _, _, hb3⟩
            have HR3 : Kp _ := ⟨hr3⟩
            have HW3 : Kp (Below w1.heap.size w1 w3) := ⟨HW.out.trans (hb3.mono HW.out.size)⟩
            clear hr3 hb3 HW HKw HBs hcell
            go_wp2_with (with_reducible refine wpList_alloc (o := ⟨some 11, _, _, _, _, _⟩) tySeal rfl rfl ?_)
            intro w4 hk4 hb4 hs4
            have HK4 : Kp _ := ⟨hk4⟩
            have HB4 : Kp _ := ⟨hb4⟩
            clear hk4 hb4 hs4
            go_wp2_with (with_reducible refine wpList_storeAll (o := ⟨none, _, _, _, _, _⟩) (vs := rcL (decR (decO key x)).num (decR (decO key x)).blk A3 n3 c3 D3 m3 e3) rwSeal rfl (.tmp 11) (.tmp 38) rfl rfl HK4.out rfl rfl (rcL_one _ _ _ _ _ _ _ _) rfl ?_)
            intro w5 hk5 ho5
            have hb35 : Below w3.heap.size w3 w5 := HB4.out.trans (ho5.below (Nat.le_refl _))
            have HX5 : Kp _ := ⟨hk5⟩
            have HR5 : Kp _ := ⟨HR3.out.next hb35 (Nat.le_refl _)⟩
            have HW5 : Kp (Below w1.heap.size w1 w5) := ⟨HW3.out.trans (hb35.mono HW3.out.size)⟩
            clear hk5 ho5 hb35 HK4 HB4 HR3 HW3
            cases hd : decO key x with
            | none =>
              rw [hd] at HPs HX5 HR5
              have HP2 : Kp (pickO key N (ls.take (i + 1)) = none) := ⟨by rw [HPs.out, HPk.out]; simp⟩
              have hf5 : (decF none : Int) = 5 := rfl
              rw [hf5]
              clear hd hf5 HPs
              go_wp2
              refine ⟨⟨i + 1, by omega, by go_num, HP2, HW5⟩, by simp [intOf]; omega⟩
            | some r =>
              rw [hd] at HPs HX5 HR5
              have hf0 : (decF (some r) : Int) = 0 := rfl
              rw [hf0]
              have HX : Kp (Blk w5 w3.heap.size 26 (rcL r.num r.blk A3 n3 c3 D3 m3 e3)) := ⟨HX5.out⟩
              have HRr : Kp (Rs w5 w5.heap.size A3 n3 c3 D3 m3 e3 r) := ⟨HR5.out⟩
              have x0 : w5.cell? ⟨w3.heap.size, 0, none⟩ = some (.int .u64 r.num) := HX.out.cell? 0
              clear hd hf0 HX5 HR5
              by_cases hq : r.num = N
              · have HP2 : Kp (pickO key N (ls.take (i + 1)) = some r) := ⟨by rw [HPs.out, HPk.out]; simp [hq]⟩
                have HRs : Kp (chooseO key ctr ls = some r) := ⟨HRes.out r (HAll.out r HP2.out)⟩
                have q1 : ((r.num : Int) == (N : Int)) = true := by simp; omega
                have HKr4 : Kp _ := ⟨HKr.out.below HW5.out HKr.out.lt⟩
                clear hq HPs HPk HAll HP2
                go_wp2_with (first
                  | (with_reducible refine wpList_loadAll (o := ⟨some 48, _, _, _, _, _⟩) rwSeal rfl (.tmp 11) rfl rfl HX.out rfl ?_)
                  | (with_reducible refine wpList_storeAll (o := ⟨none, _, _, _, _, _⟩) (vs := rcL r.num r.blk A3 n3 c3 D3 m3 e3) rwSeal rfl (.tmp 6) (.tmp 48) rfl rfl HKr4.out rfl rfl (rcL_one _ _ _ _ _ _ _ _) rfl ?_))
                intro w9 hk9 ho9
                have HK9 : Kp _ := ⟨hk9⟩
                have HB9 : Kp (Below w.heap.size w w9) := ⟨(HB1.out.trans (HW5.out.mono HB1.out.size)).trans (ho9.below (Nat.le_refl _))⟩
                have HR9 : Kp _ := ⟨HRr.out.over ho9 HKr4.out⟩
                clear hk9 ho9
                go_wp2
                try simp only [Exit.noGoto]
                refine ret_two rfl rwSeal rfl rfl HK9.out rfl rfl ?_
                rw [HRs.out]
                exact ⟨A3, n3, c3, D3, m3, e3, rfl, HR9.out, HB9.out⟩
              · have HP2 : Kp (pickO key N (ls.take (i + 1)) = none) := ⟨by rw [HPs.out, HPk.out]; simp [hq]⟩
                have q1 : ((r.num : Int) == (N : Int)) = false := by simp; omega
                clear hq HPs
                go_wp2
                refine ⟨⟨i + 1, by omega, by go_num, HP2, HW5⟩, by simp [intOf]; omega⟩
          · have HPa : Kp (pickO key N ls = none) := ⟨by have h := HPk.out; rwa [List.take_of_length_le (by rw [HLm.out]; omega)] at h⟩
            clear HPk
            go_wp2
            go_roundw
            case rel => exact ⟨1, by omega, by first | rfl | go_num, ⟨fun _ => HNn.out HPa.out⟩, ⟨fun h => absurd h (by decide)⟩, HW⟩
            case measure => simp [intOf]
      · have wc : IntKind.u64.wrap ((ctr : Int) + 1) = 0 := by rw [IntKind.wrap_u64]; have := HCt.out; omega
        have d0 : decide ((0 : Int) < (ctr : Int)) = true := decide_eq_true (by omega)
        have hc0 : 0 < ctr := by omega
        have HNn : Kp (nextO key ctr ls = none) := ⟨by unfold nextO; rw [if_neg hf]⟩
        clear hf HNx HPx
        go_wp2
        go_roundw
        case rel => exact ⟨1, by omega, by first | rfl | go_num, ⟨fun _ => HNn.out⟩, ⟨fun h => absurd h (by decide)⟩, HW⟩
        case measure => simp [intOf]
    · obtain ⟨N, hN⟩ : ∃ N, N = ctr := ⟨_, rfl⟩
      have wc : IntKind.u64.wrap (ctr : Int) = (N : Int) := by rw [IntKind.wrap_u64]; have := HCt.out; omega
      have wc0 : IntKind.u64.wrap ((ctr : Int) + 0) = (N : Int) := by rw [IntKind.wrap_u64]; have := HCt.out; omega
      have hNc : ¬ N < ctr := by omega
      have HNx1 : Kp (nextO key ctr ls = none) := ⟨HNx.out (by omega)⟩
      have HRes : Kp (∀ r, pickO key N ls = some r → chooseO key ctr ls = some r) := ⟨fun r h => by rw [chooseO_second HNx1.out, ← hN]; exact h⟩
      have HNn : Kp (pickO key N ls = none → pickO key ctr ls = none) := ⟨fun h => by rw [← hN]; exact h⟩
      clear hN HNx HPx
      go_wp2
      go_loopw [10] (fun j wq => ∃ i : Nat, i ≤ m ∧ j = .int .i64 i ∧ Kp (pickO key N (ls.take i) = none) ∧ Kp (Below w1.heap.size w1 wq)) (fun j _ => m - (intOf j).toNat)
      case atStart => exact ⟨0, Nat.zero_le _, rfl, ⟨pickO_zero _ _ _⟩, HW⟩
      case round =>
        clear HW
        obtain ⟨i, hi, rfl, HPk, HW⟩ := hrel
        by_cases hlt : i < m
        · have hkl : i < ls.length := by rw [HLm.out]; exact hlt
          obtain ⟨b1, o1, A1, n1, c1, rfl, _, hcell, hbs⟩ := (HLo.out wr HW.out).at hlt
          have HBs : Kp _ := ⟨hbs⟩
          have HN1 : Kp (n1 ≤ 1000000) := ⟨by have h1 := hbs.len; have h2 := HLl.out _ (List.getElem_mem hkl); omega⟩
          have HKw : Kp _ := ⟨HKo.out wr HW.out⟩
          have HPs : Kp _ := ⟨pickO_succ key N ls i hkl⟩
          have HAll : Kp (∀ r, pickO key N (ls.take (i + 1)) = some r → pickO key N ls = some r) := ⟨fun r h => pickO_all h⟩
          generalize ls[i] = x at *
          clear hbs
          go_wp2_with fail
          refine (refdecode_any key KA kn kc A1 n1 c1 x wr HKw.out HBs.out HKn.out HN1.out).mono ?_
          rintro xx w3 ⟨A3, n3, c3, D3, m3, e3, rfl, hr3, _, _, hb3⟩
          have HR3 : Kp _ := ⟨hr3⟩
          have HW3 : Kp (Below w1.heap.size w1 w3) := ⟨HW.out.trans (hb3.mono HW.out.size)⟩
          clear hr3 hb3 HW HKw HBs hcell
          go_wp2_with (with_reducible refine wpList_alloc (o := ⟨some 11, _, _, _, _, _⟩) tySeal rfl rfl ?_)
          intro w4 hk4 hb4 hs4
          have HK4 : Kp _ := ⟨hk4⟩
          have HB4 : Kp _ := ⟨hb4⟩
          clear hk4 hb4 hs4
          go_wp2_with (with_reducible refine wpList_storeAll (o := ⟨none, _, _, _, _, _⟩) (vs := rcL (decR (decO key x)).num (decR (decO key x)).blk A3 n3 c3 D3 m3 e3) rwSeal rfl (.tmp 11) (.tmp 38) rfl rfl HK4.out rfl rfl (rcL_one _ _ _ _ _ _ _ _) rfl ?_)
          intro w5 hk5 ho5
          have hb35 : Below w3.heap.size w3 w5 := HB4.out.trans (ho5.below (Nat.le_refl _))
          have HX5 : Kp _ := ⟨hk5⟩
          have HR5 : Kp _ := ⟨HR3.out.next hb35 (Nat.le_refl _)⟩
          have HW5 : Kp (Below w1.heap.size w1 w5) := ⟨HW3.out.trans (hb35.mono HW3.out.size)⟩
          clear hk5 ho5 hb35 HK4 HB4 HR3 HW3
          cases hd : decO key x with
          | none =>
            rw [hd] at HPs HX5 HR5
            have HP2 : Kp (pickO key N (ls.take (i + 1)) = none) := ⟨by rw [HPs.out, HPk.out]; simp⟩
            have hf5 : (decF none : Int) = 5 := rfl
            rw [hf5]
            clear hd hf5 HPs
            go_wp2
            refine ⟨⟨i + 1, by omega, by go_num, HP2, HW5⟩, by simp [intOf]; omega⟩
          | some r =>
            rw [hd] at HPs HX5 HR5
            have hf0 : (decF (some r) : Int) = 0 := rfl
            rw [hf0]
            have HX : Kp (Blk w5 w3.heap.size 26 (rcL r.num r.blk A3 n3 c3 D3 m3 e3)) := ⟨HX5.out⟩
            have HRr : Kp (Rs w5 w5.heap.size A3 n3 c3 D3 m3 e3 r) := ⟨HR5.out⟩
            have x0 : w5.cell? ⟨w3.heap.size, 0, none⟩ = some (.int .u64 r.num) := HX.out.cell? 0
            clear hd hf0 HX5 HR5
            by_cases hq : r.num = N
            · have HP2 : Kp (pickO key N (ls.take (i + 1)) = some r) := ⟨by rw [HPs.out, HPk.out]; simp [hq]⟩
              have HRs : Kp (chooseO key ctr ls = some r) := ⟨HRes.out r (HAll.out r HP2.out)⟩
              have q1 : ((r.num : Int) == (N : Int)) = true := by simp; omega
              have HKr4 : Kp _ := ⟨HKr.out.below HW5.out HKr.out.lt⟩
              clear hq HPs HPk HAll HP2
              go_wp2_with (first
                | (with_reducible refine wpList_loadAll (o := ⟨some 48, _, _, _, _, _⟩) rwSeal rfl (.tmp 11) rfl rfl HX.out rfl ?_)
                | (with_reducible refine wpList_storeAll (o := ⟨none, _, _, _, _, _⟩) (vs := rcL r.num r.blk A3 n3 c3 D3 m3 e3) rwSeal rfl (.tmp 6) (.tmp 48) rfl rfl HKr4.out rfl rfl (rcL_one _ _ _ _ _ _ _ _) rfl ?_))
              intro w9 hk9 ho9
              have HK9 : Kp _ := ⟨hk9⟩
              have HB9 : Kp (Below w.heap.size w w9) := ⟨(HB1.out.trans (HW5.out.mono HB1.out.size)).trans (ho9.below (Nat.le_refl _))⟩
              have HR9 : Kp _ := ⟨HRr.out.over ho9 HKr4.out⟩
              clear hk9 ho9
              go_wp2
              try simp only [Exit.noGoto]
              refine ret_two rfl rwSeal rfl rfl HK9.out rfl rfl ?_
              rw [HRs.out]
              exact ⟨A3, n3, c3, D3, m3, e3, rfl, HR9.out, HB9.out⟩
            · have HP2 : Kp (pickO key N (ls.take (i + 1)) = none) := ⟨by rw [HPs.out, HPk.out]; simp [hq]⟩
              have q1 : ((r.num : Int) == (N : Int)) = false := by simp; omega
              clear hq HPs
              go_wp2
              refine ⟨⟨i + 1, by omega, by go_num, HP2, HW5⟩, by simp [intOf]; omega⟩
        · have HPa : Kp (pickO key N ls = none) := ⟨by have h := HPk.out; rwa [List.take_of_length_le (by rw [HLm.out]; omega)] at h⟩
          clear HPk
          go_wp2
          go_roundw
          case rel => exact ⟨2, by omega, by first | rfl | go_num, ⟨fun _ => HNx1.out⟩, ⟨fun _ => HNn.out HPa.out⟩, HW⟩
          case measure => simp [intOf]
    · have HRes : Kp (chooseO key ctr ls = none) := ⟨by rw [chooseO_second (HNx.out (by omega))]; exact HPx.out (by omega)⟩
      have HKr4 : Kp _ := ⟨HKr.out.below HW.out HKr.out.lt⟩
      go_wp2_with (with_reducible refine wpList_storeAll (o := ⟨none, _, _, _, _, _⟩) (vs := rcZ) rwSeal rfl (.tmp 6) (.tmp 49) rfl rfl HKr4.out rfl rfl (rcL_one _ _ _ _ _ _ _ _) rfl ?_)
      intro w9 hk9 ho9
      have HK9 : Kp _ := ⟨hk9⟩
      have HB9 : Kp (Below w.heap.size w w9) := ⟨(HB1.out.trans (HW.out.mono HB1.out.size)).trans (ho9.below (Nat.le_refl _))⟩
      clear hk9 ho9
      go_wp2
      try simp only [Exit.noGoto]
      refine ret_two rfl rwSeal rfl rfl HK9.out rfl rfl ?_
      rw [HRes.out]
      exact ⟨none, 0, 0, none, 0, 0, rfl, Rs.zero _ _, HB9.out⟩
end Go.Proofs.Ytadpfbjpkbpanaa
