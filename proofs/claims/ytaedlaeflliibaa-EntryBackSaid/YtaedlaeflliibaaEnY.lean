/- An entry's bytes; the contract of kept. -/
import Derived.Test.YtaedlaeflliibaaEnK
import Derived.Test.YtaedlaeflliibaaLists
import Derived.Test.YtaedlaeflliibaaCPut
import Derived.Test.YtaedlaeflliibaaOnto
import Derived.Deep.RegionHeld3
namespace Go.Proofs.Ytaedlaeflliibaa
open Go.RowKit Go.Deep

/-- an entry, as bytes -/
def enc1 (x : En) : List UInt8 := putN x.1.length 1 ++ (padL x.1 27 ++ putN x.2.toNat 4)
def encL (l : List En) : List UInt8 := (l.map enc1).flatten
theorem enc1_len {x : En} (h : x.1.length ≤ 27) : (enc1 x).length = 32 := by
  unfold enc1
  simp [putN_length, padL_length]; omega
theorem Ls.three {w : World} {A A2 A3 : Option Addr} {n c n2 c2 n3 c3 : Nat} {l l2 l3 : List UInt8} (t : TypeId) (h : Bs w w.heap.size A n c l) (h2 : Bs w w.heap.size A2 n2 c2 l2) (h3 : Bs w w.heap.size A3 n3 c3 l3) :
    Ls (w.alloc (.cells #[.slice A n c, .slice A2 n2 c2, .slice A3 n3 c3] t)) (w.alloc (.cells #[.slice A n c, .slice A2 n2 c2, .slice A3 n3 c3] t)).heap.size (some ⟨w.heap.size, 0, none⟩) 3 3 [l, l2, l3] := by
  have hk := Blk.new w t [.slice A n c, .slice A2 n2 c2, .slice A3 n3 c3]
  refine ⟨rfl, Nat.le_refl _, by simp [maxLen], (fun h => by cases h), fun _ => ⟨w.heap.size, 0, rfl, by simp, fun j hj => ?_⟩⟩
  rcases (by simp at hj; omega : j = 0 ∨ j = 1 ∨ j = 2) with rfl | rfl | rfl
  · exact ⟨A, n, c, hk.cell? 0, (h.alloc (Nat.le_refl _) _).more (by simp)⟩
  · exact ⟨A2, n2, c2, hk.cell? 1, (h2.alloc (Nat.le_refl _) _).more (by simp)⟩
  · exact ⟨A3, n3, c3, hk.cell? 2, (h3.alloc (Nat.le_refl _) _).more (by simp)⟩
section
variable {ops : Array Oper} {S : World → Prop} {op : Oper} {a : Act} {g o : Nat}
theorem yieldsIf_str (hw : Region.wanted op (yielded ops a.tmps) = true) (x : Operand) (ho : op.op = .load 9 x) (hx : a.eval x = .pointer (some ⟨g, o, none⟩)) (s : ByteArray) (hS : ∀ W, S W → W.cell? ⟨g, o, none⟩ = some (.string s)) :
    YieldsIf Try.prog ops S op (.string s) a :=
  .inl ⟨hw, fun w h => by
    have hc := hS w h
    unfold execOp
    simp only [ho, hx]
    go_simp⟩
theorem yieldsIf_int (hw : Region.wanted op (yielded ops a.tmps) = true) (x : Operand) (ho : op.op = .load 3 x) (hx : a.eval x = .pointer (some ⟨g, o, none⟩)) (z : Int) (hS : ∀ W, S W → W.cell? ⟨g, o, none⟩ = some (.int .i64 z)) :
    YieldsIf Try.prog ops S op (.int .i64 z) a :=
  .inl ⟨hw, fun w h => by
    have hc := hS w h
    unfold execOp
    simp only [ho, hx]
    go_simp⟩
theorem step_bytesOf {w : World} {K : Act → World → Prop} {C : Prop} {Q : Exit → Act → World → Prop} (hgd : op.guard = none) (x : Operand) (hop : op.op = .convert 9 23 x)
    {l : List UInt8} (hx : a.eval x = .string ⟨l.toArray⟩) (hm : l.length ≤ maxLen)
    (h : ∀ c w', Bs w' w'.heap.size (some ⟨w.heap.size, 0, none⟩) l.length c l → Below w.heap.size w w' → K (a.put op.dst (.slice (some ⟨w.heap.size, 0, none⟩) l.length c)) w') :
    if Region.wanted op (yielded ops a.tmps) = true then Oper.wp Try.prog op a w K Q else C := by
  have hw : Region.wanted op (yielded ops a.tmps) = true := by simp [Region.wanted, hgd]
  rw [if_pos hw]
  have hrun := run_bytes_of_string (P := Try.prog) w 9 23 5 ⟨l.toArray⟩ Try.underlying9 el8.ty (by kernel_rfl)
  have hsz : (⟨l.toArray⟩ : ByteArray).size = l.length := by simp [ByteArray.size]
  rw [hsz] at hrun
  unfold Oper.wp
  simp [execOp, hop, hx, hrun, Result.andThen]
  refine h _ _ ?_ (((Below.refl _ w).drew).alloc (Nat.le_refl _) _)
  exact Came.bs (str_came w.drew l 5 _ (grownCap_ge w l.length 0 5) _) (by simp) (grownCap_le_maxLen w l.length 0 5 hm)
end
set_option maxRecDepth 100000 in
set_option maxHeartbeats 4000000 in
theorem kept_any (x : En) (w : World) (h27 : x.1.length ≤ 27) (h0 : 0 ≤ x.2) (h1 : x.2 ≤ 65535) :
    Calls Try.prog 30 #[.agg (enOne x).toArray] w fun e w' => ∃ A c, e = .returned (.slice A 32 c) ∧ Bs w' w'.heap.size A 32 c (enc1 x) ∧ Below w.heap.size w w' := by
  obtain ⟨nm, z⟩ := x
  simp only at h27 h0 h1
  obtain ⟨k, rfl⟩ := Int.eq_ofNat_of_zero_le h0
  obtain ⟨n, hn⟩ : ∃ n, n = nm.length := ⟨_, rfl⟩
  have HNl : Kp (nm.length = n) := ⟨hn.symm⟩
  have hsz : (ByteArray.mk nm.toArray).size = n := by simp [ByteArray.size, hn]
  have HFl : Kp ([putN n 1, padL nm 27, putN k 4].flatten = enc1 (nm, (k : Int))) := ⟨by unfold enc1; rw [hn]; simp⟩
  have HF32 : Kp ((enc1 (nm, (k : Int))).length = 32) := ⟨enc1_len (by simp only; omega)⟩
  have HP1 : Kp (∀ W, Calls Try.prog 45 #[.int .u64 (n : Int), .int .i64 1] W fun e w' => ∃ A c, e = .returned (.slice A 1 c) ∧ Bs w' w'.heap.size A 1 c (putN n 1) ∧ Below W.heap.size W w') := ⟨fun W => by
    refine (put_any n 1 W (by omega)).mono ?_
    rintro e w' ⟨v, rfl, hown, hb⟩
    obtain ⟨A, c, rfl, hbs⟩ := Bs.of_own hown
    exact ⟨A, c, rfl, hbs, hb⟩⟩
  have HP4 : Kp (∀ W, Calls Try.prog 45 #[.int .u64 (k : Int), .int .i64 4] W fun e w' => ∃ A c, e = .returned (.slice A 4 c) ∧ Bs w' w'.heap.size A 4 c (putN k 4) ∧ Below W.heap.size W w') := ⟨fun W => by
    refine (put_any k 4 W (by omega)).mono ?_
    rintro e w' ⟨v, rfl, hown, hb⟩
    obtain ⟨A, c, rfl, hbs⟩ := Bs.of_own hown
    exact ⟨A, c, rfl, hbs, hb⟩⟩
  have HPd : Kp (∀ W A c, Bs W W.heap.size A n c nm → Calls Try.prog 46 #[.slice A n c, .int .i64 27] W fun e w' => ∃ A' c', e = .returned (.slice A' 27 c') ∧ Bs w' w'.heap.size A' 27 c' (padL nm 27) ∧ Below W.heap.size W w') := ⟨fun W A c h => by
    refine (pad_any A n c 27 nm W h (by omega) (by omega)).mono ?_
    rintro e w' ⟨v, rfl, hown, hb⟩
    have hl : (padL nm 27).length = 27 := by rw [padL_length]; omega
    rw [hl] at hown
    obtain ⟨A', c', rfl, hbs⟩ := Bs.of_own hown
    exact ⟨A', c', rfl, hbs, hb⟩⟩
  have HJ : Kp (∀ W A, Ls W W.heap.size A 3 3 [putN n 1, padL nm 27, putN k 4] → Calls Try.prog 44 #[.slice A 3 3] W fun e w' => ∃ A' c', e = .returned (.slice A' 32 c') ∧ Bs w' w'.heap.size A' 32 c' (enc1 (nm, (k : Int))) ∧ Below W.heap.size W w') := ⟨fun W A h => by
    refine (join_any A 3 3 _ W h (by rw [HFl.out, HF32.out]; omega)).mono ?_
    rintro e w' ⟨v, rfl, hown, hb⟩
    rw [HFl.out, HF32.out] at hown
    obtain ⟨A', c', rfl, hbs⟩ := Bs.of_own hown
    exact ⟨A', c', rfl, hbs, hb⟩⟩
  have hmx : nm.length ≤ maxLen := by simp only [maxLen]; omega
  have hcv : IntKind.u64.wrap (n : Int) = (n : Int) := by rw [IntKind.wrap_u64]; omega
  have hck : IntKind.u64.wrap (k : Int) = (k : Int) := by rw [IntKind.wrap_u64]; omega
  clear hn h0
  go_enter Try.func30, Try.ntmps30
  go_wp2_with (with_reducible refine wpList_box (o := ⟨some 1, _, _, _, _, _⟩) (cs := enOne (nm, (k : Int))) rfl (.tmp 0) rfl rfl ?_)
  intro w1 hk1 hb1 hs1
  obtain ⟨g, hg⟩ : ∃ g, g = w.heap.size := ⟨_, rfl⟩
  have HRG : Kp (w1.rangeAt g 0 (enOne (nm, (k : Int)))) := ⟨by rw [hg]; exact hk1.range (n := 2) rfl⟩
  have hgl : g < w1.heap.size := by rw [hg]; exact hk1.lt
  have HB1 : Kp (∀ W, Below w1.heap.size w1 W → Below w.heap.size w W) := ⟨fun W hW => hb1.trans (hW.mono hb1.size)⟩
  have HS0 : Kp (∀ W : World, W.rangeAt g 0 (enOne (nm, (k : Int))) → W.cell? ⟨g, 0, none⟩ = some (.string ⟨nm.toArray⟩) ∧ W.cell? ⟨g, 1, none⟩ = some (.int .i64 (k : Int))) := ⟨fun W h => ⟨h 0 _ rfl, h 1 _ rfl⟩⟩
  simp only [← hg]
  clear hk1 hb1 hs1 hg
  go_wp2_with fail
  refine wp_region_held_drew (S := fun W => Below w1.heap.size w1 W ∧ W.rangeAt g 0 (enOne (nm, (k : Int)))) (by kernel_rfl) (⟨(Below.refl _ _).drew, HRG.out⟩) (fun hHeld => ?_)
  generalize w1.drew = wS at *
  refine wpAnyH_take (i := 0) (oi := ⟨some 3, _, _, _, _, _⟩) (v := ?_) rfl (by kernel_rfl) (by kernel_rfl) (by kernel_rfl) (fun _ _ _ h => h) (Or.inl ⟨by rfl, by intro w hSw; go_simp; try rfl⟩) (by assumption) ?_
  try simp only [Act.put, List.setIfInBounds_toArray, List.set_cons_zero, List.set_cons_succ]
  refine wpAnyH_take (i := 1) (oi := ⟨some 4, _, _, _, _, _⟩) (v := _) rfl (by kernel_rfl) (by kernel_rfl) (by kernel_rfl) (fun _ _ _ h => h) (yieldsIf_str (by rfl) _ rfl rfl _ (fun W hW => (HS0.out W hW.2).1)) (by assumption) ?_
  try simp only [Act.put, List.setIfInBounds_toArray, List.set_cons_zero, List.set_cons_succ]
  refine wpAnyH_take (i := 2) (oi := ⟨some 5, _, _, _, _, _⟩) (v := ?_) rfl (by kernel_rfl) (by kernel_rfl) (by kernel_rfl) (fun _ _ _ h => h) (Or.inl ⟨by rfl, by intro w hSw; go_simp; try rfl⟩) (by assumption) ?_
  try simp only [Act.put, List.setIfInBounds_toArray, List.set_cons_zero, List.set_cons_succ]
  refine wpAnyH_take (i := 3) (oi := ⟨some 6, _, _, _, _, _⟩) (v := ?_) rfl (by kernel_rfl) (by kernel_rfl) (by kernel_rfl) (fun _ _ _ h => h) (Or.inl ⟨by rfl, by intro w hSw; go_simp; try rfl⟩) (by assumption) ?_
  try simp only [Act.put, List.setIfInBounds_toArray, List.set_cons_zero, List.set_cons_succ]
  refine wpAnyH_take (i := 5) (oi := ⟨some 8, _, _, _, _, _⟩) (v := ?_) rfl (by kernel_rfl) (by kernel_rfl) (by kernel_rfl) (fun _ _ _ h => h) (Or.inl ⟨by rfl, by intro w hSw; go_simp; try rfl⟩) (by assumption) ?_
  try simp only [Act.put, List.setIfInBounds_toArray, List.set_cons_zero, List.set_cons_succ]
  refine wpAnyH_take (i := 6) (oi := ⟨some 9, _, _, _, _, _⟩) (v := _) rfl (by kernel_rfl) (by kernel_rfl) (by kernel_rfl) (fun _ _ _ h => h) (yieldsIf_str (by rfl) _ rfl rfl _ (fun W hW => (HS0.out W hW.2).1)) (by assumption) ?_
  try simp only [Act.put, List.setIfInBounds_toArray, List.set_cons_zero, List.set_cons_succ]
  refine wpAnyH_take (i := 9) (oi := ⟨some 12, _, _, _, _, _⟩) (v := ?_) rfl (by kernel_rfl) (by kernel_rfl) (by kernel_rfl) (fun _ _ _ h => h) (Or.inl ⟨by rfl, by intro w hSw; go_simp; try rfl⟩) (by assumption) ?_
  try simp only [Act.put, List.setIfInBounds_toArray, List.set_cons_zero, List.set_cons_succ]
  refine wpAnyH_take (i := 10) (oi := ⟨some 13, _, _, _, _, _⟩) (v := _) rfl (by kernel_rfl) (by kernel_rfl) (by kernel_rfl) (fun _ _ _ h => h) (yieldsIf_int (by rfl) _ rfl rfl _ (fun W hW => (HS0.out W hW.2).2)) (by assumption) ?_
  try simp only [Act.put, List.setIfInBounds_toArray, List.set_cons_zero, List.set_cons_succ]
  refine wpAnyH_take (i := 11) (oi := ⟨some 14, _, _, _, _, _⟩) (v := ?_) rfl (by kernel_rfl) (by kernel_rfl) (by kernel_rfl) (fun _ _ _ h => h) (Or.inl ⟨by rfl, by intro w hSw; go_simp; try rfl⟩) (by assumption) ?_
  try simp only [Act.put, List.setIfInBounds_toArray, List.set_cons_zero, List.set_cons_succ]
  refine wpAnyH_ready (rs := [4, 7]) (by kernel_rfl) (by simp) ?_
  refine AllReadyH.cons (o := ⟨some 7, _, _, _, _, _⟩) rfl (fun K hK => ?_) (AllReadyH.cons (o := ⟨some 10, _, _, _, _, _⟩) rfl (fun K hK => ?_) AllReadyH.nil)
  · go_simp
    refine (HP1.out _).mono ?_
    rintro e w51 ⟨A7, c7, rfl, h7, hb'⟩
    have B7 : Kp _ := ⟨h7⟩
    clear h7
    refine hK.out _ _ (keep_call hHeld hgl hb') (fun hHeld2 => ?_)
    clear hK K hb' hHeld
    have hHeld := hHeld2
    clear hHeld2
    try simp only [Act.put, List.setIfInBounds_toArray, List.set_cons_zero, List.set_cons_succ]
    refine wpAnyH_ready (rs := [7]) (by kernel_rfl) (by simp) ?_
    refine AllReadyH.cons (o := ⟨some 10, _, _, _, _, _⟩) rfl (fun K hK => ?_) AllReadyH.nil
    refine step_bytesOf rfl _ rfl rfl hmx ?_
    intro c10 w52 h10 hb'
    rw [HNl.out] at h10 ⊢
    try replace B7 : Kp _ := ⟨B7.out.next hb' (Nat.le_refl _)⟩
    have B10 : Kp _ := ⟨h10⟩
    clear h10
    refine hK.out _ _ (keep_call hHeld hgl hb') (fun hHeld2 => ?_)
    clear hb'
    clear hK K hHeld
    have hHeld := hHeld2
    clear hHeld2
    try simp only [Act.put, List.setIfInBounds_toArray, List.set_cons_zero, List.set_cons_succ]
    refine wpAnyH_ready (rs := [8]) (by kernel_rfl) (by simp) ?_
    refine AllReadyH.cons (o := ⟨some 11, _, _, _, _, _⟩) rfl (fun K hK => ?_) AllReadyH.nil
    go_simp
    refine (HPd.out _ _ _ B10.out).mono ?_
    rintro e w53 ⟨A11, c11, rfl, h11, hb'⟩
    clear B10
    replace B7 : Kp _ := ⟨B7.out.next hb' (Nat.le_refl _)⟩
    have B11 : Kp _ := ⟨h11⟩
    clear h11
    refine hK.out _ _ (keep_call hHeld hgl hb') (fun hHeld2 => ?_)
    clear hK K hb' hHeld
    have hHeld := hHeld2
    clear hHeld2
    try simp only [Act.put, List.setIfInBounds_toArray, List.set_cons_zero, List.set_cons_succ]
    refine wpAnyH_ready (rs := [12]) (by kernel_rfl) (by simp) ?_
    refine AllReadyH.cons (o := ⟨some 15, _, _, _, _, _⟩) rfl (fun K hK => ?_) AllReadyH.nil
    go_simp
    refine (HP4.out _).mono ?_
    rintro e w54 ⟨A15, c15, rfl, h15, hb'⟩
    replace B7 : Kp _ := ⟨B7.out.next hb' (Nat.le_refl _)⟩
    replace B11 : Kp _ := ⟨B11.out.next hb' (Nat.le_refl _)⟩
    have B15 : Kp _ := ⟨h15⟩
    clear h15
    refine hK.out _ _ (keep_call hHeld hgl hb') (fun hHeld2 => ?_)
    clear hK K hb' hHeld
    have hHeld := hHeld2
    clear hHeld2
    try simp only [Act.put, List.setIfInBounds_toArray, List.set_cons_zero, List.set_cons_succ]
    refine wpAnyH_ready (rs := [13]) (by kernel_rfl) (by simp) ?_
    refine AllReadyH.cons (o := ⟨some 16, _, _, _, _, _⟩) rfl (fun K hK => ?_) AllReadyH.nil
    go_simp
    have LS : Kp _ := ⟨Ls.three (w := w54) 23 B7.out B11.out B15.out⟩
    replace B7 : Kp _ := ⟨(B7.out.below ((Below.refl _ _).alloc (Nat.le_refl _) (.cells #[.slice A7 1 c7, .slice A11 27 c11, .slice A15 4 c15] 23))).more (B' := ((w54).alloc (.cells #[.slice A7 1 c7, .slice A11 27 c11, .slice A15 4 c15] 23)).heap.size) (by simp)⟩
    replace B11 : Kp _ := ⟨(B11.out.below ((Below.refl _ _).alloc (Nat.le_refl _) (.cells #[.slice A7 1 c7, .slice A11 27 c11, .slice A15 4 c15] 23))).more (B' := ((w54).alloc (.cells #[.slice A7 1 c7, .slice A11 27 c11, .slice A15 4 c15] 23)).heap.size) (by simp)⟩
    replace B15 : Kp _ := ⟨(B15.out.below ((Below.refl _ _).alloc (Nat.le_refl _) (.cells #[.slice A7 1 c7, .slice A11 27 c11, .slice A15 4 c15] 23))).more (B' := ((w54).alloc (.cells #[.slice A7 1 c7, .slice A11 27 c11, .slice A15 4 c15] 23)).heap.size) (by simp)⟩
    refine hK.out _ _ (keep_alloc hHeld _) (fun hHeld2 => ?_)
    clear hK K hHeld
    have hHeld := hHeld2
    clear hHeld2
    generalize (w54).alloc (.cells #[.slice A7 1 c7, .slice A11 27 c11, .slice A15 4 c15] 23) = w55 at *
    try simp only [Act.put, List.setIfInBounds_toArray, List.set_cons_zero, List.set_cons_succ]
    refine wpAnyH_ready (rs := [14]) (by kernel_rfl) (by simp) ?_
    refine AllReadyH.cons (o := ⟨some 17, _, _, _, _, _⟩) rfl (fun K hK => ?_) AllReadyH.nil
    go_simp
    refine (HJ.out _ _ LS.out).mono ?_
    rintro e w56 ⟨A17, c17, rfl, h17, hb'⟩
    clear LS
    replace B7 : Kp _ := ⟨B7.out.next hb' (Nat.le_refl _)⟩
    replace B11 : Kp _ := ⟨B11.out.next hb' (Nat.le_refl _)⟩
    replace B15 : Kp _ := ⟨B15.out.next hb' (Nat.le_refl _)⟩
    have B17 : Kp _ := ⟨h17⟩
    clear h17
    refine hK.out _ _ (keep_call hHeld hgl hb') (fun hHeld2 => ?_)
    clear hK K hb' hHeld
    have hHeld := hHeld2
    clear hHeld2
    try simp only [Act.put, List.setIfInBounds_toArray, List.set_cons_zero, List.set_cons_succ]
    refine wpAnyH_take (i := 15) (oi := ⟨some 2, _, _, _, _, _⟩) (v := ?_) rfl (by kernel_rfl) (by kernel_rfl) (by kernel_rfl) (fun _ _ _ h => h) (Or.inl ⟨by rfl, by intro w hSw; go_simp; try rfl⟩) (by assumption) ?_
    try simp only [Act.put, List.setIfInBounds_toArray, List.set_cons_zero, List.set_cons_succ]
    refine wpAnyH_done (by kernel_rfl) ?_ _
    go_wp2
    go_ret
    exact ⟨_, _, rfl, B17.out, HB1.out _ hHeld.1⟩
  · refine step_bytesOf rfl _ rfl rfl hmx ?_
    intro c10 w57 h10 hb'
    rw [HNl.out] at h10 ⊢
    try replace B7 : Kp _ := ⟨B7.out.next hb' (Nat.le_refl _)⟩
    have B10 : Kp _ := ⟨h10⟩
    clear h10
    refine hK.out _ _ (keep_call hHeld hgl hb') (fun hHeld2 => ?_)
    clear hb'
    clear hK K hHeld
    have hHeld := hHeld2
    clear hHeld2
    try simp only [Act.put, List.setIfInBounds_toArray, List.set_cons_zero, List.set_cons_succ]
    refine wpAnyH_ready (rs := [4]) (by kernel_rfl) (by simp) ?_
    refine AllReadyH.cons (o := ⟨some 7, _, _, _, _, _⟩) rfl (fun K hK => ?_) AllReadyH.nil
    go_simp
    refine (HP1.out _).mono ?_
    rintro e w58 ⟨A7, c7, rfl, h7, hb'⟩
    replace B10 : Kp _ := ⟨B10.out.next hb' (Nat.le_refl _)⟩
    have B7 : Kp _ := ⟨h7⟩
    clear h7
    refine hK.out _ _ (keep_call hHeld hgl hb') (fun hHeld2 => ?_)
    clear hK K hb' hHeld
    have hHeld := hHeld2
    clear hHeld2
    try simp only [Act.put, List.setIfInBounds_toArray, List.set_cons_zero, List.set_cons_succ]
    refine wpAnyH_ready (rs := [8]) (by kernel_rfl) (by simp) ?_
    refine AllReadyH.cons (o := ⟨some 11, _, _, _, _, _⟩) rfl (fun K hK => ?_) AllReadyH.nil
    go_simp
    refine (HPd.out _ _ _ B10.out).mono ?_
    rintro e w59 ⟨A11, c11, rfl, h11, hb'⟩
    clear B10
    replace B7 : Kp _ := ⟨B7.out.next hb' (Nat.le_refl _)⟩
    have B11 : Kp _ := ⟨h11⟩
    clear h11
    refine hK.out _ _ (keep_call hHeld hgl hb') (fun hHeld2 => ?_)
    clear hK K hb' hHeld
    have hHeld := hHeld2
    clear hHeld2
    try simp only [Act.put, List.setIfInBounds_toArray, List.set_cons_zero, List.set_cons_succ]
    refine wpAnyH_ready (rs := [12]) (by kernel_rfl) (by simp) ?_
    refine AllReadyH.cons (o := ⟨some 15, _, _, _, _, _⟩) rfl (fun K hK => ?_) AllReadyH.nil
    go_simp
    refine (HP4.out _).mono ?_
    rintro e w60 ⟨A15, c15, rfl, h15, hb'⟩
    replace B7 : Kp _ := ⟨B7.out.next hb' (Nat.le_refl _)⟩
    replace B11 : Kp _ := ⟨B11.out.next hb' (Nat.le_refl _)⟩
    have B15 : Kp _ := ⟨h15⟩
    clear h15
    refine hK.out _ _ (keep_call hHeld hgl hb') (fun hHeld2 => ?_)
    clear hK K hb' hHeld
    have hHeld := hHeld2
    clear hHeld2
    try simp only [Act.put, List.setIfInBounds_toArray, List.set_cons_zero, List.set_cons_succ]
    refine wpAnyH_ready (rs := [13]) (by kernel_rfl) (by simp) ?_
    refine AllReadyH.cons (o := ⟨some 16, _, _, _, _, _⟩) rfl (fun K hK => ?_) AllReadyH.nil
    go_simp
    have LS : Kp _ := ⟨Ls.three (w := w60) 23 B7.out B11.out B15.out⟩
    replace B7 : Kp _ := ⟨(B7.out.below ((Below.refl _ _).alloc (Nat.le_refl _) (.cells #[.slice A7 1 c7, .slice A11 27 c11, .slice A15 4 c15] 23))).more (B' := ((w60).alloc (.cells #[.slice A7 1 c7, .slice A11 27 c11, .slice A15 4 c15] 23)).heap.size) (by simp)⟩
    replace B11 : Kp _ := ⟨(B11.out.below ((Below.refl _ _).alloc (Nat.le_refl _) (.cells #[.slice A7 1 c7, .slice A11 27 c11, .slice A15 4 c15] 23))).more (B' := ((w60).alloc (.cells #[.slice A7 1 c7, .slice A11 27 c11, .slice A15 4 c15] 23)).heap.size) (by simp)⟩
    replace B15 : Kp _ := ⟨(B15.out.below ((Below.refl _ _).alloc (Nat.le_refl _) (.cells #[.slice A7 1 c7, .slice A11 27 c11, .slice A15 4 c15] 23))).more (B' := ((w60).alloc (.cells #[.slice A7 1 c7, .slice A11 27 c11, .slice A15 4 c15] 23)).heap.size) (by simp)⟩
    refine hK.out _ _ (keep_alloc hHeld _) (fun hHeld2 => ?_)
    clear hK K hHeld
    have hHeld := hHeld2
    clear hHeld2
    generalize (w60).alloc (.cells #[.slice A7 1 c7, .slice A11 27 c11, .slice A15 4 c15] 23) = w61 at *
    try simp only [Act.put, List.setIfInBounds_toArray, List.set_cons_zero, List.set_cons_succ]
    refine wpAnyH_ready (rs := [14]) (by kernel_rfl) (by simp) ?_
    refine AllReadyH.cons (o := ⟨some 17, _, _, _, _, _⟩) rfl (fun K hK => ?_) AllReadyH.nil
    go_simp
    refine (HJ.out _ _ LS.out).mono ?_
    rintro e w62 ⟨A17, c17, rfl, h17, hb'⟩
    clear LS
    replace B7 : Kp _ := ⟨B7.out.next hb' (Nat.le_refl _)⟩
    replace B11 : Kp _ := ⟨B11.out.next hb' (Nat.le_refl _)⟩
    replace B15 : Kp _ := ⟨B15.out.next hb' (Nat.le_refl _)⟩
    have B17 : Kp _ := ⟨h17⟩
    clear h17
    refine hK.out _ _ (keep_call hHeld hgl hb') (fun hHeld2 => ?_)
    clear hK K hb' hHeld
    have hHeld := hHeld2
    clear hHeld2
    try simp only [Act.put, List.setIfInBounds_toArray, List.set_cons_zero, List.set_cons_succ]
    refine wpAnyH_take (i := 15) (oi := ⟨some 2, _, _, _, _, _⟩) (v := ?_) rfl (by kernel_rfl) (by kernel_rfl) (by kernel_rfl) (fun _ _ _ h => h) (Or.inl ⟨by rfl, by intro w hSw; go_simp; try rfl⟩) (by assumption) ?_
    try simp only [Act.put, List.setIfInBounds_toArray, List.set_cons_zero, List.set_cons_succ]
    refine wpAnyH_done (by kernel_rfl) ?_ _
    go_wp2
    go_ret
    exact ⟨_, _, rfl, B17.out, HB1.out _ hHeld.1⟩
end Go.Proofs.Ytaedlaeflliibaa
