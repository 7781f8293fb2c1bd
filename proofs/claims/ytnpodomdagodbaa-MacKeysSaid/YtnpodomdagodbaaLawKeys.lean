/- The walk of MacKeys. -/
import Derived.Test.YtnpodomdagodbaaKnown3
import Derived.Test.YtnpodomdagodbaaHeld
import Derived.Test.YtnpodomdagodbaaCop
namespace Go.Proofs.Ytnpodomdagodbaa
open Go.RowKit

theorem padK_zeros (key : List UInt8) (c : UInt8) (k n : Nat) : padK (key ++ List.replicate k 0) c n = padK key c n := by
  unfold padK
  refine List.map_congr_left fun i _ => ?_
  congr 1
  simp only [List.getD_eq_getElem?_getD]
  by_cases h : i < key.length
  · rw [List.getElem?_append_left h]
  · rw [List.getElem?_append_right (by omega), List.getElem?_eq_none (show key.length ≤ i by omega), List.getElem?_replicate]
    split <;> rfl
theorem hmacL_zeros (key b : List UInt8) (k : Nat) (h : key.length + k ≤ 64) : hmacL (key ++ List.replicate k 0) b = hmacL key b := by
  have e1 : keyL (key ++ List.replicate k 0) = key ++ List.replicate k 0 := by unfold keyL; rw [if_neg (by simp; omega)]
  have e2 : keyL key = key := by unfold keyL; rw [if_neg (by omega)]
  unfold hmacL
  rw [e1, e2, padK_zeros, padK_zeros]
theorem hmacL_sum (key b : List UInt8) (h : 64 < key.length) : hmacL (shaL key) b = hmacL key b := by
  have e1 : keyL (shaL key) = shaL key := by unfold keyL; rw [if_neg (by rw [shaL_len]; omega)]
  have e2 : keyL key = shaL key := by unfold keyL; rw [if_pos h]
  unfold hmacL
  rw [e1, e2]
theorem zeros_next (key : List UInt8) (k : Nat) : key ++ List.replicate (k + 1) 0 = key ++ List.replicate k 0 ++ [(0 : UInt8)] := by
  rw [List.replicate_succ', List.append_assoc]

set_option maxRecDepth 100000 in
set_option maxHeartbeats 4000000 in
theorem walk_macKeys (A : Option Addr) (n c : Nat) (key : List UInt8) (x : Int) (B : Option Addr) (m d : Nat) (a : List UInt8) (C : Option Addr) (p q : Nat) (b : List UInt8) (w : World)
    (ha : Bs w w.heap.size A n c key) (hx : (Lit.int .u8 x).wf = true) (hb : Bs w w.heap.size B m d a) (hc : Bs w w.heap.size C p q b) (hm : m ≤ 140737488351232) (hp : p ≤ 140737488351232) :
    Calls Try.prog 13 #[.slice A n c, .int .u8 x, .slice B m d, .slice C p q] w fun e w' => e = .returned (.bool true) ∧ Below w.heap.size w w' := by
  have hxb : 0 ≤ x ∧ x ≤ 255 := by simpa [Lit.wf, IntKind.min, IntKind.max, IntKind.signed, IntKind.bits] using hx
  obtain ⟨X, rfl⟩ := Int.eq_ofNat_of_zero_le hxb.1
  have hX : X ≤ 255 := by omega
  have hn63 := ha.le
  have HA : Kp _ := ⟨ha⟩
  have HB : Kp _ := ⟨hb⟩
  have HC : Kp _ := ⟨hc⟩
  have HLk : Kp (key.length = n) := ⟨ha.len⟩
  have HLa : Kp (a.length = m) := ⟨hb.len⟩
  have HLb : Kp (b.length = p) := ⟨hc.len⟩
  clear ha hb hc hx hxb
  by_cases h150 : (150 : Int) < n
  · go_enter Try.func13, Try.ntmps13
    go_wp2_with fail
    refine (known3_any _).mono ?_
    rintro e w1 ⟨rfl, hB1⟩
    go_wp2
    go_ret
    exact ⟨rfl, hB1⟩
  by_cases h500 : (500 : Int) < (m : Int) + (p : Int)
  · go_enter Try.func13, Try.ntmps13
    go_wp2_with fail
    refine (known3_any _).mono ?_
    rintro e w1 ⟨rfl, hB1⟩
    go_wp2
    go_ret
    exact ⟨rfl, hB1⟩
  have hn3 : n ≤ 150 := by omega
  have hmp : m + p ≤ 500 := by omega
  have HLab : Kp (a.length + b.length ≤ 500) := ⟨by rw [HLa.out, HLb.out]; exact hmp⟩
  go_enter Try.func13, Try.ntmps13
  go_wp2_with fail
  refine (tag2 A n c key B m d a C p q b w 23 HA.out HB.out HC.out (by omega) (by have := HLab.out; omega)).mono ?_
  rintro e w2 ⟨rfl, hB02⟩
  have HDL : Kp _ := ⟨hmacL_length key (a ++ b)⟩
  have HSum : Kp (64 < n → hmacL (shaL key) (a ++ b) = hmacL key (a ++ b)) := ⟨fun h => hmacL_sum key _ (by rw [HLk.out]; exact h)⟩
  have HZer : Kp (∀ k, n + k ≤ 64 → hmacL (key ++ List.replicate k 0) (a ++ b) = hmacL key (a ++ b)) := ⟨fun k h => hmacL_zeros key _ k (by rw [HLk.out]; exact h)⟩
  generalize hD : hmacL key (a ++ b) = D at *
  have HD : Kp _ := ⟨hD⟩
  have HD32 : Kp ((cells8 D).length = 32) := ⟨by rw [cells8_length, HDL.out]⟩
  have HZ32 : Kp (zero32.length = 32) := ⟨rfl⟩
  clear hD
  go_wp2_with (with_reducible refine wpList_alloc (o := ⟨some 9, _, _, _, _, _⟩) tyDig rfl rfl ?_)
  intro w3 hk3 hb3 hs3
  have HK3 : Kp _ := ⟨hk3⟩
  clear hk3
  go_wp2_with (with_reducible refine wpList_storeAll (o := ⟨none, _, _, _, _, _⟩) (vs := cells8 D) rwDig rfl (.tmp 9) (.tmp 30) rfl rfl HK3.out HZ32.out HD32.out (cells8_one _) rfl ?_)
  intro w4 hk4 ho4
  obtain ⟨g, hg⟩ : ∃ g, g = w2.heap.size := ⟨_, rfl⟩
  have hb24 : Below w2.heap.size w2 w4 := hb3.trans (ho4.below (Nat.le_refl _))
  have HRG4 : Kp (w4.rangeAt g 0 (cells8 D)) := ⟨by rw [hg]; exact hk4.range (n := 32) (by rw [List.drop_zero, List.take_of_length_le (by rw [HD32.out]; exact Nat.le_refl _)])⟩
  have hg4 : g < w4.heap.size := by rw [hg]; exact hk4.lt
  have hB04 := below_next hB02 hb24
  have HB4 : Kp _ := ⟨HB.out.next hB04 (Nat.le_refl _)⟩
  rw [← hg]
  clear hk4 ho4 HK3 hb3 hs3 hg hb24 hB02
  go_wp2_with (at_builtin; refine wpList_app el8 rfl _ _ rfl w4.heap.size _ 0 [] rfl (own_nil _ _ _) B m d (cells8 a) rfl (by rw [cells8_length, HLa.out]) (fun h => ⟨by have := HB4.out.nil h; have := HB4.out.cap; omega, HB4.out.nil h⟩) HB4.out.news (cells8_one _) (by simp only [maxLen]; omega) (by omega) (Nat.le_refl _) ?_)
  intro v5 w5 hown5 hg5 _
  have hb45 : Below w4.heap.size w4 w5 := (Below.refl _ _).grown hg5 (Nat.le_refl _) (by simp [Value.ownBlock])
  have H5 : Kp (w5.ownsRow w4.heap.size 5 1 v5 m (cells8 a)) := ⟨by simpa using hown5⟩
  have hs5 := hb45.size
  have HC5 : Kp _ := ⟨HC.out.next (below_next hB04 hb45) (Nat.le_refl _)⟩
  obtain ⟨A5, c5, rfl, _⟩ := own_form H5.out
  clear hown5 hg5
  go_wp2_with (at_builtin; refine wpList_app el8 rfl _ _ rfl w4.heap.size _ m (cells8 a) rfl H5.out C p q (cells8 b) rfl (by rw [cells8_length, HLb.out]) (fun h => ⟨by have := HC5.out.nil h; have := HC5.out.cap; omega, HC5.out.nil h⟩) HC5.out.news (cells8_one _) (by simp only [maxLen]; omega) (by omega) hs5 ?_)
  intro v6 w6 hown6 hg6 _
  have hb46 : Below w4.heap.size w4 w6 := hb45.trans (below_of_grown H5.out hs5 hg6)
  rw [← cells8_append] at hown6
  obtain ⟨A6, c6, rfl, hbs6⟩ := Bs.of_own hown6
  have HAll6 : Kp (Bs w6 w6.heap.size A6 (m + p) c6 (a ++ b)) := ⟨hbs6⟩
  have HRG6 : Kp (w6.rangeAt g 0 (cells8 D)) := ⟨range_below HRG4.out hb46 hg4⟩
  have hg6' : g < w6.heap.size := Nat.lt_of_lt_of_le hg4 hb46.size
  have hB06 := below_next hB04 hb46
  clear hown6 hbs6 hg6 H5 HB4 HC5 hb45 hs5 hb46 hg4 HRG4 hB04
  have BK : Kp (∀ W, Below w6.heap.size w6 W → Bs W W.heap.size A n c key) := ⟨fun W hW => HA.out.next (below_next hB06 hW) (Nat.le_refl _)⟩
  have BA : Kp (∀ W, Below w6.heap.size w6 W → Bs W W.heap.size B m d a) := ⟨fun W hW => HB.out.next (below_next hB06 hW) (Nat.le_refl _)⟩
  have BB : Kp (∀ W, Below w6.heap.size w6 W → Bs W W.heap.size C p q b) := ⟨fun W hW => HC.out.next (below_next hB06 hW) (Nat.le_refl _)⟩
  have BAll : Kp (∀ W, Below w6.heap.size w6 W → Bs W W.heap.size A6 (m + p) c6 (a ++ b)) := ⟨fun W hW => HAll6.out.next hW (Nat.le_refl _)⟩
  have CT1 : Kp (∀ W P K j e' k', Bs W W.heap.size K j e' k' → hmacL k' (a ++ b) = D → j ≤ 524288 → Ls W W.heap.size P 1 1 [a ++ b] → Calls Try.prog 25 #[.slice K j e', .slice P 1 1] W fun e w' => e = .returned (.agg (cells8 D).toArray) ∧ Below W.heap.size W w') := ⟨fun W P K j e' k' hk hd hj hl => by
    have h := tag_any K j e' k' P 1 1 [a ++ b] W hk hl hj (by have := HLab.out; simp; omega)
    rw [show [a ++ b].flatten = a ++ b by simp, hd] at h
    exact h⟩
  have CT2 : Kp (∀ W P K j e' k', Bs W W.heap.size K j e' k' → hmacL k' (a ++ b) = D → j ≤ 524288 → Ls W W.heap.size P 2 2 [a, b] → Calls Try.prog 25 #[.slice K j e', .slice P 2 2] W fun e w' => e = .returned (.agg (cells8 D).toArray) ∧ Below W.heap.size W w') := ⟨fun W P K j e' k' hk hd hj hl => by
    have h := tag_any K j e' k' P 2 2 [a, b] W hk hl hj (by have := HLab.out; simp; omega)
    rw [show [a, b].flatten = a ++ b by simp, hd] at h
    exact h⟩
  have hu : (Try.prog).underlying 27 = some (.array 32 5) := rwDig.ty
  have hi32 : ((Try.prog).info? 27).map (·.size) = some (cells8 D).length := by rw [HD32.out]; exact rwDig.size
  go_wp2_with fail
  refine wp_region_held_drew (S := fun W => Below w6.heap.size w6 W ∧ W.rangeAt g 0 (cells8 D)) (by kernel_rfl) (⟨(Below.refl _ _).drew, HRG6.out⟩) (fun hHeld => ?_)
  generalize w6.drew = wS at *
  refine wpAnyH_take (i := 0) (oi := ⟨some 37, _, _, _, _, _⟩) (v := ?_) rfl (by kernel_rfl) (by kernel_rfl) (by kernel_rfl) (fun _ _ _ h => h) (Or.inl ⟨by rfl, by intro w hSw; go_simp; try rfl⟩) (by assumption) ?_
  try simp only [Act.put, List.setIfInBounds_toArray, List.set_cons_zero, List.set_cons_succ]
  refine wpAnyH_take (i := 1) (oi := ⟨some 38, _, _, _, _, _⟩) (v := ?_) rfl (by kernel_rfl) (by kernel_rfl) (by kernel_rfl) (fun _ _ _ h => h) (Or.inl ⟨by rfl, by intro w hSw; go_simp; try rfl⟩) (by assumption) ?_
  try simp only [Act.put, List.setIfInBounds_toArray, List.set_cons_zero, List.set_cons_succ]
  refine wpAnyH_take (i := 4) (oi := ⟨some 41, _, _, _, _, _⟩) (v := _) rfl (by kernel_rfl) (by kernel_rfl) (by kernel_rfl) (fun _ _ _ h => h) (yieldsIf_load_mid (by rfl) _ (.tmp 9) rfl _ _ rfl (cells8 D) _ (fun W hW => hW.2) hu rfl hi32) (by assumption) ?_
  try simp only [Act.put, List.setIfInBounds_toArray, List.set_cons_zero, List.set_cons_succ]
  refine wpAnyH_ready (rs := [2]) (by kernel_rfl) (by simp) ?_
  refine AllReadyH.cons (o := ⟨some 39, _, _, _, _, _⟩) rfl (fun K hK => ?_) AllReadyH.nil
  go_simp
  have LA : Kp _ := ⟨ls_one wS 23 (BAll.out _ hHeld.1)⟩
  refine hK.out _ _ (keep_alloc hHeld _) (fun hHeld2 => ?_)
  clear hK K hHeld
  have hHeld := hHeld2
  clear hHeld2
  generalize (wS).alloc (.cells #[.slice A6 (m + p) c6] 23) = w61 at *
  try simp only [Act.put, List.setIfInBounds_toArray, List.set_cons_zero, List.set_cons_succ]
  refine wpAnyH_ready (rs := [3]) (by kernel_rfl) (by simp) ?_
  refine AllReadyH.cons (o := ⟨some 40, _, _, _, _, _⟩) rfl (fun K hK => ?_) AllReadyH.nil
  go_simp
  refine (CT1.out _ _ _ _ _ key (BK.out _ hHeld.1) HD.out (by omega) LA.out).mono ?_
  rintro e w62 ⟨rfl, hb'⟩
  clear LA
  refine hK.out _ _ (keep_call hHeld hg6' hb') (fun hHeld2 => ?_)
  clear hK K hb' hHeld
  have hHeld := hHeld2
  clear hHeld2
  try simp only [Act.put, List.setIfInBounds_toArray, List.set_cons_zero, List.set_cons_succ]
  refine wpAnyH_take (i := 5) (oi := ⟨some 42, _, _, _, _, _⟩) (v := _) rfl (by kernel_rfl) (by kernel_rfl) (by kernel_rfl) (fun _ _ _ h => h) (yieldsIf_neq (by rfl) eqDig Try.eqGuardType27 (.tmp 40) (.tmp 41) rfl D D rfl rfl HDL.out HDL.out (by rw [beq_self_eq_true])) (by assumption) ?_
  try simp only [Act.put, List.setIfInBounds_toArray, List.set_cons_zero, List.set_cons_succ]
  refine wpAnyH_done (by kernel_rfl) ?_ _
  have hB67 : Below w6.heap.size w6 w62 := hHeld.1
  have HRG62 : Kp (w62.rangeAt g 0 (cells8 D)) := ⟨hHeld.2⟩
  have hg62 : g < w62.heap.size := Nat.lt_of_lt_of_le hg6' hB67.size
  clear hHeld HRG6
  by_cases h64 : (64 : Int) < n
  · have HS : Kp _ := ⟨HSum.out (by omega)⟩
    go_wp2_with fail
    refine (refsum_any A n c key w62 (BK.out _ hB67) (by omega)).mono ?_
    rintro e w70 ⟨rfl, hb70⟩
    have HKL : Kp _ := ⟨shaL_len key⟩
    generalize shaL key = E at *
    have HE32 : Kp ((cells8 E).length = 32) := ⟨by rw [cells8_length, HKL.out]⟩
    have hB70 := below_next hB67 hb70
    have HRG70 : Kp (w70.rangeAt g 0 (cells8 D)) := ⟨range_below HRG62.out hb70 hg62⟩
    have hg70 : g < w70.heap.size := Nat.lt_of_lt_of_le hg62 hb70.size
    clear hb70 HRG62 hg62
    go_wp2_with (with_reducible refine wpList_alloc (o := ⟨some 11, _, _, _, _, _⟩) tyDig rfl rfl ?_)
    intro w71 hk71 hb71 hs71
    have HK71 : Kp _ := ⟨hk71⟩
    clear hk71
    go_wp2_with (with_reducible refine wpList_storeAll (o := ⟨none, _, _, _, _, _⟩) (vs := cells8 E) rwDig rfl (.tmp 11) (.tmp 47) rfl rfl HK71.out HZ32.out HE32.out (cells8_one _) rfl ?_)
    intro w72 hk72 ho72
    have hb72 : Below w70.heap.size w70 w72 := hb71.trans (ho72.below (Nat.le_refl _))
    have hl72 : w70.heap.size < w72.heap.size := hk72.lt
    have HE72 : Kp (Bs w72 w72.heap.size (some ⟨w70.heap.size, 0, none⟩) 32 32 E) := ⟨hk72.bytes hl72 (by rw [List.drop_zero, List.take_of_length_le (by rw [HE32.out]; exact Nat.le_refl _)]) HKL.out 32 (Nat.le_refl _) (by decide)⟩
    have HRG72 : Kp (w72.rangeAt g 0 (cells8 D)) := ⟨range_below HRG70.out hb72 hg70⟩
    have hg72 : g < w72.heap.size := Nat.lt_of_lt_of_le hg70 hb72.size
    have hB72 := below_next hB70 hb72
    have BE : Kp (∀ W, Below w72.heap.size w72 W → Bs W W.heap.size (some ⟨w70.heap.size, 0, none⟩) 32 32 E) := ⟨fun W hW => HE72.out.next hW (Nat.le_refl _)⟩
    have BAll2 : Kp (∀ W, Below w72.heap.size w72 W → Bs W W.heap.size A6 (m + p) c6 (a ++ b)) := ⟨fun W hW => BAll.out W (below_next hB72 hW)⟩
    clear hk72 ho72 HK71 hb71 hs71 HRG70 hg70 hb72
    go_wp2_with fail
    refine wp_region_held_drew (S := fun W => Below w72.heap.size w72 W ∧ W.rangeAt g 0 (cells8 D)) (by kernel_rfl) (⟨(Below.refl _ _).drew, HRG72.out⟩) (fun hHeld => ?_)
    generalize w72.drew = wS at *
    refine wpAnyH_take (i := 0) (oi := ⟨some 48, _, _, _, _, _⟩) (v := ?_) rfl (by kernel_rfl) (by kernel_rfl) (by kernel_rfl) (fun _ _ _ h => h) (Or.inl ⟨by rfl, by intro w hSw; go_simp; try rfl⟩) (by assumption) ?_
    try simp only [Act.put, List.setIfInBounds_toArray, List.set_cons_zero, List.set_cons_succ]
    refine wpAnyH_take (i := 1) (oi := ⟨some 49, _, _, _, _, _⟩) (v := ?_) rfl (by kernel_rfl) (by kernel_rfl) (by kernel_rfl) (fun _ _ _ h => h) (Or.inl ⟨by rfl, by intro w hSw; go_simp; try rfl⟩) (by assumption) ?_
    try simp only [Act.put, List.setIfInBounds_toArray, List.set_cons_zero, List.set_cons_succ]
    refine wpAnyH_take (i := 4) (oi := ⟨some 52, _, _, _, _, _⟩) (v := _) rfl (by kernel_rfl) (by kernel_rfl) (by kernel_rfl) (fun _ _ _ h => h) (yieldsIf_load_mid (by rfl) _ (.tmp 9) rfl _ _ rfl (cells8 D) _ (fun W hW => hW.2) hu rfl hi32) (by assumption) ?_
    try simp only [Act.put, List.setIfInBounds_toArray, List.set_cons_zero, List.set_cons_succ]
    refine wpAnyH_ready (rs := [2]) (by kernel_rfl) (by simp) ?_
    refine AllReadyH.cons (o := ⟨some 50, _, _, _, _, _⟩) rfl (fun K hK => ?_) AllReadyH.nil
    go_simp
    have LA : Kp _ := ⟨ls_one wS 23 (BAll2.out _ hHeld.1)⟩
    refine hK.out _ _ (keep_alloc hHeld _) (fun hHeld2 => ?_)
    clear hK K hHeld
    have hHeld := hHeld2
    clear hHeld2
    generalize (wS).alloc (.cells #[.slice A6 (m + p) c6] 23) = w81 at *
    try simp only [Act.put, List.setIfInBounds_toArray, List.set_cons_zero, List.set_cons_succ]
    refine wpAnyH_ready (rs := [3]) (by kernel_rfl) (by simp) ?_
    refine AllReadyH.cons (o := ⟨some 51, _, _, _, _, _⟩) rfl (fun K hK => ?_) AllReadyH.nil
    go_simp
    refine (CT1.out _ _ _ _ _ E (BE.out _ hHeld.1) HS.out (by omega) LA.out).mono ?_
    rintro e w82 ⟨rfl, hb'⟩
    clear LA
    refine hK.out _ _ (keep_call hHeld hg72 hb') (fun hHeld2 => ?_)
    clear hK K hb' hHeld
    have hHeld := hHeld2
    clear hHeld2
    try simp only [Act.put, List.setIfInBounds_toArray, List.set_cons_zero, List.set_cons_succ]
    refine wpAnyH_take (i := 5) (oi := ⟨some 53, _, _, _, _, _⟩) (v := _) rfl (by kernel_rfl) (by kernel_rfl) (by kernel_rfl) (fun _ _ _ h => h) (yieldsIf_eql (by rfl) eqDig Try.eqGuardType27 (.tmp 51) (.tmp 52) rfl D D rfl rfl HDL.out HDL.out (by rw [beq_self_eq_true])) (by assumption) ?_
    try simp only [Act.put, List.setIfInBounds_toArray, List.set_cons_zero, List.set_cons_succ]
    refine wpAnyH_take (i := 6) (oi := ⟨some 54, _, _, _, _, _⟩) (v := ?_) rfl (by kernel_rfl) (by kernel_rfl) (by kernel_rfl) (fun _ _ _ h => h) (Or.inl ⟨by rfl, by intro w hSw; go_simp; try rfl⟩) (by assumption) ?_
    try simp only [Act.put, List.setIfInBounds_toArray, List.set_cons_zero, List.set_cons_succ]
    refine wpAnyH_ready (rs := [7]) (by kernel_rfl) (by simp) ?_
    refine AllReadyH.cons (o := ⟨some 55, _, _, _, _, _⟩) rfl (fun K hK => ?_) AllReadyH.nil
    go_simp
    refine (known3_any _).mono ?_
    rintro e w83 ⟨rfl, hb'⟩
    refine hK.out _ _ (keep_call hHeld hg72 hb') (fun hHeld2 => ?_)
    clear hK K hb' hHeld
    have hHeld := hHeld2
    clear hHeld2
    try simp only [Act.put, List.setIfInBounds_toArray, List.set_cons_zero, List.set_cons_succ]
    refine wpAnyH_take (i := 8) (oi := ⟨some 56, _, _, _, _, _⟩) (v := ?_) rfl (by kernel_rfl) (by kernel_rfl) (by kernel_rfl) (fun _ _ _ h => h) (Or.inl ⟨by rfl, by intro w hSw; go_simp; try rfl⟩) (by assumption) ?_
    try simp only [Act.put, List.setIfInBounds_toArray, List.set_cons_zero, List.set_cons_succ]
    refine wpAnyH_take (i := 9) (oi := ⟨some 8, _, _, _, _, _⟩) (v := ?_) rfl (by kernel_rfl) (by kernel_rfl) (by kernel_rfl) (fun _ _ _ h => h) (Or.inl ⟨by rfl, by intro w hSw; go_simp; try rfl⟩) (by assumption) ?_
    try simp only [Act.put, List.setIfInBounds_toArray, List.set_cons_zero, List.set_cons_succ]
    refine wpAnyH_done (by kernel_rfl) ?_ _
    go_wp2
    go_ret
    exact ⟨rfl, hB06.trans ((hB72.trans (hHeld.1.mono hB72.size)).mono hB06.size)⟩
  · go_wp2_with fail
    refine (cop_any A n c key w62 (BK.out _ hB67) (by omega)).mono ?_
    rintro e w70 ⟨v70, rfl, hown70, hb70⟩
    have HO70 : Hid (w70.ownsRow w62.heap.size 5 1 v70 (n + 0) (cells8 (key ++ List.replicate 0 0))) := by simpa [Hid] using hown70
    clear hown70
    go_wp2
    go_loopw [12, 13] (fun v i wr => ∃ k : Nat, k ≤ X ∧ i = .int .i64 k ∧ n + k ≤ 64 ∧ Hid (wr.ownsRow w62.heap.size 5 1 v (n + k) (cells8 (key ++ List.replicate k 0))) ∧ Below w62.heap.size w62 wr) (fun _ i _ => X - (intOf i).toNat)
    case atStart => exact ⟨0, Nat.zero_le _, rfl, by omega, HO70, hb70⟩
    case round =>
      clear HO70 hb70
      obtain ⟨k, hk, rfl, hk64, H, hbr⟩ := hrel
      have hsr := hbr.size
      obtain ⟨Ak, ck, rfl, _⟩ := own_form H.out
      by_cases hlt : (k : Int) < (X : Int)
      · by_cases hlt2 : (n : Int) + (k : Int) < 64
        · have HN : Kp _ := ⟨zeros_next key k⟩
          go_wp2_with (at_builtin; refine wpList_app1 el8 rfl _ _ rfl w62.heap.size _ (n + k) _ rfl H.out rfl rfl (by simp only [maxLen]; omega) (by omega) hsr ?_)
          intro v' w' H' hb' _ _
          have H2 : Hid (w'.ownsRow w62.heap.size 5 1 v' (n + (k + 1)) (cells8 (key ++ List.replicate (k + 1) 0))) := by
            show World.ownsRow _ _ _ _ _ _ _
            rw [HN.out, cells8_append]
            exact H'.out
          clear H H' HN
          go_wp2
          go_roundw
          case rel => exact ⟨k + 1, by omega, by go_num, by omega, H2, hbr.trans hb'⟩
          case measure => simp [intOf]; omega
        · have hlt3 : ¬ ((n : Int) + (k : Int) < 64) := hlt2
          obtain ⟨A', c', e', hbs⟩ := Bs.of_own H.out
          cases e'
          have HS : Kp _ := ⟨HZer.out k hk64⟩
          obtain ⟨wz, rfl⟩ : ∃ x, x = wr := ⟨wr, rfl⟩
          have HLg : Kp (Bs wz wz.heap.size Ak (n + k) ck (key ++ List.replicate k 0)) := ⟨hbs⟩
          have BE : Kp (∀ W, Below wz.heap.size wz W → Bs W W.heap.size Ak (n + k) ck (key ++ List.replicate k 0)) := ⟨fun W hW => HLg.out.next hW (Nat.le_refl _)⟩
          have hB7 := below_next hB67 hbr
          have HRGz : Kp (wz.rangeAt g 0 (cells8 D)) := ⟨range_below HRG62.out hbr hg62⟩
          have hgz : g < wz.heap.size := Nat.lt_of_lt_of_le hg62 hbr.size
          have BA2 : Kp (∀ W, Below wz.heap.size wz W → Bs W W.heap.size B m d a) := ⟨fun W hW => BA.out W (below_next hB7 hW)⟩
          have BB2 : Kp (∀ W, Below wz.heap.size wz W → Bs W W.heap.size C p q b) := ⟨fun W hW => BB.out W (below_next hB7 hW)⟩
          clear hbs H
          go_wp2_with fail
          refine wp_region_held_drew (S := fun W => Below wz.heap.size wz W ∧ W.rangeAt g 0 (cells8 D)) (by kernel_rfl) (⟨(Below.refl _ _).drew, HRGz.out⟩) (fun hHeld => ?_)
          generalize wz.drew = wS at *
          refine wpAnyH_take (i := 0) (oi := ⟨some 73, _, _, _, _, _⟩) (v := ?_) rfl (by kernel_rfl) (by kernel_rfl) (by kernel_rfl) (fun _ _ _ h => h) (Or.inl ⟨by rfl, by intro w hSw; go_simp; try rfl⟩) (by assumption) ?_
          try simp only [Act.put, List.setIfInBounds_toArray, List.set_cons_zero, List.set_cons_succ]
          refine wpAnyH_take (i := 1) (oi := ⟨some 74, _, _, _, _, _⟩) (v := ?_) rfl (by kernel_rfl) (by kernel_rfl) (by kernel_rfl) (fun _ _ _ h => h) (Or.inl ⟨by rfl, by intro w hSw; go_simp; try rfl⟩) (by assumption) ?_
          try simp only [Act.put, List.setIfInBounds_toArray, List.set_cons_zero, List.set_cons_succ]
          refine wpAnyH_take (i := 2) (oi := ⟨some 75, _, _, _, _, _⟩) (v := ?_) rfl (by kernel_rfl) (by kernel_rfl) (by kernel_rfl) (fun _ _ _ h => h) (Or.inl ⟨by rfl, by intro w hSw; go_simp; try rfl⟩) (by assumption) ?_
          try simp only [Act.put, List.setIfInBounds_toArray, List.set_cons_zero, List.set_cons_succ]
          refine wpAnyH_take (i := 5) (oi := ⟨some 78, _, _, _, _, _⟩) (v := _) rfl (by kernel_rfl) (by kernel_rfl) (by kernel_rfl) (fun _ _ _ h => h) (yieldsIf_load_mid (by rfl) _ (.tmp 9) rfl _ _ rfl (cells8 D) _ (fun W hW => hW.2) hu rfl hi32) (by assumption) ?_
          try simp only [Act.put, List.setIfInBounds_toArray, List.set_cons_zero, List.set_cons_succ]
          refine wpAnyH_ready (rs := [3]) (by kernel_rfl) (by simp) ?_
          refine AllReadyH.cons (o := ⟨some 76, _, _, _, _, _⟩) rfl (fun K hK => ?_) AllReadyH.nil
          go_simp
          have LA : Kp _ := ⟨ls_two wS 23 (BA2.out _ hHeld.1) (BB2.out _ hHeld.1)⟩
          refine hK.out _ _ (keep_alloc hHeld _) (fun hHeld2 => ?_)
          clear hK K hHeld
          have hHeld := hHeld2
          clear hHeld2
          generalize (wS).alloc (.cells #[.slice B m d, .slice C p q] 23) = w91 at *
          try simp only [Act.put, List.setIfInBounds_toArray, List.set_cons_zero, List.set_cons_succ]
          refine wpAnyH_ready (rs := [4]) (by kernel_rfl) (by simp) ?_
          refine AllReadyH.cons (o := ⟨some 77, _, _, _, _, _⟩) rfl (fun K hK => ?_) AllReadyH.nil
          go_simp
          refine (CT2.out _ _ _ _ _ _ (BE.out _ hHeld.1) HS.out (by omega) LA.out).mono ?_
          rintro e w92 ⟨rfl, hb'⟩
          clear LA
          refine hK.out _ _ (keep_call hHeld hgz hb') (fun hHeld2 => ?_)
          clear hK K hb' hHeld
          have hHeld := hHeld2
          clear hHeld2
          try simp only [Act.put, List.setIfInBounds_toArray, List.set_cons_zero, List.set_cons_succ]
          refine wpAnyH_take (i := 6) (oi := ⟨some 79, _, _, _, _, _⟩) (v := _) rfl (by kernel_rfl) (by kernel_rfl) (by kernel_rfl) (fun _ _ _ h => h) (yieldsIf_eql (by rfl) eqDig Try.eqGuardType27 (.tmp 77) (.tmp 78) rfl D D rfl rfl HDL.out HDL.out (by rw [beq_self_eq_true])) (by assumption) ?_
          try simp only [Act.put, List.setIfInBounds_toArray, List.set_cons_zero, List.set_cons_succ]
          refine wpAnyH_take (i := 7) (oi := ⟨some 80, _, _, _, _, _⟩) (v := ?_) rfl (by kernel_rfl) (by kernel_rfl) (by kernel_rfl) (fun _ _ _ h => h) (Or.inl ⟨by rfl, by intro w hSw; go_simp; try rfl⟩) (by assumption) ?_
          try simp only [Act.put, List.setIfInBounds_toArray, List.set_cons_zero, List.set_cons_succ]
          refine wpAnyH_ready (rs := [8]) (by kernel_rfl) (by simp) ?_
          refine AllReadyH.cons (o := ⟨some 81, _, _, _, _, _⟩) rfl (fun K hK => ?_) AllReadyH.nil
          go_simp
          refine (known3_any _).mono ?_
          rintro e w93 ⟨rfl, hb'⟩
          refine hK.out _ _ (keep_call hHeld hgz hb') (fun hHeld2 => ?_)
          clear hK K hb' hHeld
          have hHeld := hHeld2
          clear hHeld2
          try simp only [Act.put, List.setIfInBounds_toArray, List.set_cons_zero, List.set_cons_succ]
          refine wpAnyH_take (i := 9) (oi := ⟨some 82, _, _, _, _, _⟩) (v := ?_) rfl (by kernel_rfl) (by kernel_rfl) (by kernel_rfl) (fun _ _ _ h => h) (Or.inl ⟨by rfl, by intro w hSw; go_simp; try rfl⟩) (by assumption) ?_
          try simp only [Act.put, List.setIfInBounds_toArray, List.set_cons_zero, List.set_cons_succ]
          refine wpAnyH_take (i := 10) (oi := ⟨some 8, _, _, _, _, _⟩) (v := ?_) rfl (by kernel_rfl) (by kernel_rfl) (by kernel_rfl) (fun _ _ _ h => h) (Or.inl ⟨by rfl, by intro w hSw; go_simp; try rfl⟩) (by assumption) ?_
          try simp only [Act.put, List.setIfInBounds_toArray, List.set_cons_zero, List.set_cons_succ]
          refine wpAnyH_done (by kernel_rfl) ?_ _
          go_wp2
          go_ret
          exact ⟨rfl, hB06.trans ((hB7.trans (hHeld.1.mono hB7.size)).mono hB06.size)⟩
      · have hlt3 : ¬ ((k : Int) < (X : Int)) := hlt
        obtain ⟨A', c', e', hbs⟩ := Bs.of_own H.out
        cases e'
        have HS : Kp _ := ⟨HZer.out k hk64⟩
        obtain ⟨wz, rfl⟩ : ∃ x, x = wr := ⟨wr, rfl⟩
        have HLg : Kp (Bs wz wz.heap.size Ak (n + k) ck (key ++ List.replicate k 0)) := ⟨hbs⟩
        have BE : Kp (∀ W, Below wz.heap.size wz W → Bs W W.heap.size Ak (n + k) ck (key ++ List.replicate k 0)) := ⟨fun W hW => HLg.out.next hW (Nat.le_refl _)⟩
        have hB7 := below_next hB67 hbr
        have HRGz : Kp (wz.rangeAt g 0 (cells8 D)) := ⟨range_below HRG62.out hbr hg62⟩
        have hgz : g < wz.heap.size := Nat.lt_of_lt_of_le hg62 hbr.size
        have BA2 : Kp (∀ W, Below wz.heap.size wz W → Bs W W.heap.size B m d a) := ⟨fun W hW => BA.out W (below_next hB7 hW)⟩
        have BB2 : Kp (∀ W, Below wz.heap.size wz W → Bs W W.heap.size C p q b) := ⟨fun W hW => BB.out W (below_next hB7 hW)⟩
        clear hbs H
        go_wp2_with fail
        refine wp_region_held_drew (S := fun W => Below wz.heap.size wz W ∧ W.rangeAt g 0 (cells8 D)) (by kernel_rfl) (⟨(Below.refl _ _).drew, HRGz.out⟩) (fun hHeld => ?_)
        generalize wz.drew = wS at *
        refine wpAnyH_take (i := 0) (oi := ⟨some 73, _, _, _, _, _⟩) (v := ?_) rfl (by kernel_rfl) (by kernel_rfl) (by kernel_rfl) (fun _ _ _ h => h) (Or.inl ⟨by rfl, by intro w hSw; go_simp; try rfl⟩) (by assumption) ?_
        try simp only [Act.put, List.setIfInBounds_toArray, List.set_cons_zero, List.set_cons_succ]
        refine wpAnyH_take (i := 1) (oi := ⟨some 74, _, _, _, _, _⟩) (v := ?_) rfl (by kernel_rfl) (by kernel_rfl) (by kernel_rfl) (fun _ _ _ h => h) (Or.inl ⟨by rfl, by intro w hSw; go_simp; try rfl⟩) (by assumption) ?_
        try simp only [Act.put, List.setIfInBounds_toArray, List.set_cons_zero, List.set_cons_succ]
        refine wpAnyH_take (i := 2) (oi := ⟨some 75, _, _, _, _, _⟩) (v := ?_) rfl (by kernel_rfl) (by kernel_rfl) (by kernel_rfl) (fun _ _ _ h => h) (Or.inl ⟨by rfl, by intro w hSw; go_simp; try rfl⟩) (by assumption) ?_
        try simp only [Act.put, List.setIfInBounds_toArray, List.set_cons_zero, List.set_cons_succ]
        refine wpAnyH_take (i := 5) (oi := ⟨some 78, _, _, _, _, _⟩) (v := _) rfl (by kernel_rfl) (by kernel_rfl) (by kernel_rfl) (fun _ _ _ h => h) (yieldsIf_load_mid (by rfl) _ (.tmp 9) rfl _ _ rfl (cells8 D) _ (fun W hW => hW.2) hu rfl hi32) (by assumption) ?_
        try simp only [Act.put, List.setIfInBounds_toArray, List.set_cons_zero, List.set_cons_succ]
        refine wpAnyH_ready (rs := [3]) (by kernel_rfl) (by simp) ?_
        refine AllReadyH.cons (o := ⟨some 76, _, _, _, _, _⟩) rfl (fun K hK => ?_) AllReadyH.nil
        go_simp
        have LA : Kp _ := ⟨ls_two wS 23 (BA2.out _ hHeld.1) (BB2.out _ hHeld.1)⟩
        refine hK.out _ _ (keep_alloc hHeld _) (fun hHeld2 => ?_)
        clear hK K hHeld
        have hHeld := hHeld2
        clear hHeld2
        generalize (wS).alloc (.cells #[.slice B m d, .slice C p q] 23) = w91 at *
        try simp only [Act.put, List.setIfInBounds_toArray, List.set_cons_zero, List.set_cons_succ]
        refine wpAnyH_ready (rs := [4]) (by kernel_rfl) (by simp) ?_
        refine AllReadyH.cons (o := ⟨some 77, _, _, _, _, _⟩) rfl (fun K hK => ?_) AllReadyH.nil
        go_simp
        refine (CT2.out _ _ _ _ _ _ (BE.out _ hHeld.1) HS.out (by omega) LA.out).mono ?_
        rintro e w92 ⟨rfl, hb'⟩
        clear LA
        refine hK.out _ _ (keep_call hHeld hgz hb') (fun hHeld2 => ?_)
        clear hK K hb' hHeld
        have hHeld := hHeld2
        clear hHeld2
        try simp only [Act.put, List.setIfInBounds_toArray, List.set_cons_zero, List.set_cons_succ]
        refine wpAnyH_take (i := 6) (oi := ⟨some 79, _, _, _, _, _⟩) (v := _) rfl (by kernel_rfl) (by kernel_rfl) (by kernel_rfl) (fun _ _ _ h => h) (yieldsIf_eql (by rfl) eqDig Try.eqGuardType27 (.tmp 77) (.tmp 78) rfl D D rfl rfl HDL.out HDL.out (by rw [beq_self_eq_true])) (by assumption) ?_
        try simp only [Act.put, List.setIfInBounds_toArray, List.set_cons_zero, List.set_cons_succ]
        refine wpAnyH_take (i := 7) (oi := ⟨some 80, _, _, _, _, _⟩) (v := ?_) rfl (by kernel_rfl) (by kernel_rfl) (by kernel_rfl) (fun _ _ _ h => h) (Or.inl ⟨by rfl, by intro w hSw; go_simp; try rfl⟩) (by assumption) ?_
        try simp only [Act.put, List.setIfInBounds_toArray, List.set_cons_zero, List.set_cons_succ]
        refine wpAnyH_ready (rs := [8]) (by kernel_rfl) (by simp) ?_
        refine AllReadyH.cons (o := ⟨some 81, _, _, _, _, _⟩) rfl (fun K hK => ?_) AllReadyH.nil
        go_simp
        refine (known3_any _).mono ?_
        rintro e w93 ⟨rfl, hb'⟩
        refine hK.out _ _ (keep_call hHeld hgz hb') (fun hHeld2 => ?_)
        clear hK K hb' hHeld
        have hHeld := hHeld2
        clear hHeld2
        try simp only [Act.put, List.setIfInBounds_toArray, List.set_cons_zero, List.set_cons_succ]
        refine wpAnyH_take (i := 9) (oi := ⟨some 82, _, _, _, _, _⟩) (v := ?_) rfl (by kernel_rfl) (by kernel_rfl) (by kernel_rfl) (fun _ _ _ h => h) (Or.inl ⟨by rfl, by intro w hSw; go_simp; try rfl⟩) (by assumption) ?_
        try simp only [Act.put, List.setIfInBounds_toArray, List.set_cons_zero, List.set_cons_succ]
        refine wpAnyH_take (i := 10) (oi := ⟨some 8, _, _, _, _, _⟩) (v := ?_) rfl (by kernel_rfl) (by kernel_rfl) (by kernel_rfl) (fun _ _ _ h => h) (Or.inl ⟨by rfl, by intro w hSw; go_simp; try rfl⟩) (by assumption) ?_
        try simp only [Act.put, List.setIfInBounds_toArray, List.set_cons_zero, List.set_cons_succ]
        refine wpAnyH_done (by kernel_rfl) ?_ _
        go_wp2
        go_ret
        exact ⟨rfl, hB06.trans ((hB7.trans (hHeld.1.mono hB7.size)).mono hB06.size)⟩

theorem law_macKeys (A : Option Addr) (n c : Nat) (key : List UInt8) (x : Int) (B : Option Addr) (m d : Nat) (a : List UInt8) (C : Option Addr) (p q : Nat) (b : List UInt8) (w : World)
    (ha : Bs w w.heap.size A n c key ∧ c ≤ 140737488351232) (hx : (Lit.int .u8 x).wf = true) (hb : Bs w w.heap.size B m d a ∧ d ≤ 140737488351232) (hc : Bs w w.heap.size C p q b ∧ q ≤ 140737488351232) :
    Calls Try.prog 13 #[.slice A n c, .int .u8 x, .slice B m d, .slice C p q] w fun e w' => e = .returned (.bool true) ∧ Below w.heap.size w w' :=
  walk_macKeys A n c key x B m d a C p q b w ha.1 hx hb.1 hc.1 (Nat.le_trans hb.1.cap hb.2) (Nat.le_trans hc.1.cap hc.2)
end Go.Proofs.Ytnpodomdagodbaa
