/- The contract of sacristanref04's Xor.
   Append of a slice in a region whose order is open; the xored bytes, turned about.
   The contract of the document's Hide.
   The contracts of the document's When and Show.
   The contract of sacristanref00's Same.
   BlockHides' walk.
   Arrays of bytes that came in by value: opened, and read again in any world. No program is named here. -/
import Derived.Test.YtckmobpjdpjocaaDoorG11
import Derived.Test.YtckmobpjdpjocaaDoorG08
import Derived.Test.YtckmobpjdpjocaaDoorG09
import Derived.Deep.RegionHeld3
import Derived.Test.YtckmobpjdpjocaaDoorG02
import Derived.Test.YtckmobpjdpjocaaDoorG01
namespace Go.Proofs.YtckmobpjdpjocaaDoor
open Go.RowKit

section
attribute [local go_sem] u8_xor'
set_option maxRecDepth 100000 in
set_option maxHeartbeats 4000000 in
theorem refxor_any (KA : Option Addr) (kc : Nat) (BA : Option Addr) (bc : Nat) (key at' : List UInt8) (B : Option Addr) (n c : Nat) (b : List UInt8) (w : World) (hc : CIs w w.heap.size KA kc (keysL boxB key) BA bc boxB) (ha : at'.length = 16) (hb : Bs w w.heap.size B n c b) (hn : n ≤ 1048576) :
    Calls Tryd.prog 27 #[.agg #[.slice KA 11 kc, .slice BA 256 bc], .agg (cells8 at').toArray, .slice B n c] w fun e w' => ∃ A d, e = .returned (.slice A n d) ∧ Bs w' w'.heap.size A n d (addL b (strL (strF key at') n) n) ∧ Below w.heap.size w w' := by
  have HC : Kp _ := ⟨hc⟩
  have HA : Kp _ := ⟨ha⟩
  have HB : Kp _ := ⟨hb⟩
  have HLa : Kp ((cells8 at').length = 16) := ⟨by rw [cells8_length]; exact ha⟩
  have HLc : Kp (([Value.slice KA 11 kc, .slice BA 256 bc] : List Value).length = 2) := ⟨rfl⟩
  have hnI : (n : Int) ≤ 1048576 := by omega
  clear hc ha hb
  go_enter Tryd.func27, Tryd.ntmps27
  go_wp2_with (with_reducible refine wpList_box (o := ⟨some 3, _, _, _, _, _⟩) (cs := [.slice KA 11 kc, .slice BA 256 bc]) rfl (.tmp 0) rfl rfl ?_)
  intro w1 hk1 hb1 hs1
  have HK1 : Kp _ := ⟨hk1⟩
  have HC1 : Kp _ := ⟨HC.out.next hb1⟩
  have HB1 : Kp _ := ⟨HB.out.next hb1 (Nat.le_refl _)⟩
  clear hk1 hs1 HC HB
  go_wp2_with (with_reducible refine wpList_box (o := ⟨some 4, _, _, _, _, _⟩) rfl (.tmp 1) rfl rfl ?_)
  intro w2 hk2 hb2 hs2
  have HT2 : Kp _ := ⟨hk2⟩
  have HK2 : Kp _ := ⟨HK1.out.below hb2 HK1.out.lt⟩
  have HC2 : Kp _ := ⟨HC1.out.next hb2⟩
  have HB2 : Kp _ := ⟨HB1.out.next hb2 (Nat.le_refl _)⟩
  have hB2 : Below w.heap.size w w2 := hb1.trans (hb2.mono hb1.size)
  clear hk2 hs2 hb1 hb2 HK1 HC1 HB1
  go_wp2_with (first
    | (with_reducible refine wpList_loadAll (o := ⟨some 13, _, _, _, _, _⟩) rwC rfl (.tmp 3) rfl rfl HK2.out HLc.out ?_)
    | (with_reducible refine wpList_loadAll (o := ⟨some 14, _, _, _, _, _⟩) rwNonce rfl (.tmp 4) rfl rfl HT2.out HLa.out ?_))
  refine (refstream_any KA kc BA bc key at' (n : Int) w2 HC2.out HA.out (by omega)).mono ?_
  rintro e w3 ⟨v3, rfl, hown, hb3⟩
  rw [show ((n : Int)).toNat = n by omega] at hown
  obtain ⟨A3, c3, rfl, hs3⟩ := Bs.of_own hown
  have HS3 : Kp _ := ⟨hs3⟩
  have HB3 : Kp _ := ⟨HB2.out.next hb3 (Nat.le_refl _)⟩
  have hB3 : Below w.heap.size w w3 := hB2.trans (hb3.mono hB2.size)
  have hXl : Kp ((strL (strF key at') n).length = n) := ⟨strL_length _ _⟩
  have hbl : Kp (b.length = n) := ⟨HB2.out.len⟩
  have hc63 := HB2.out.le
  obtain ⟨b3, hb30⟩ : ∃ x, x = w3.heap.size := ⟨_, rfl⟩
  rw [← hb30] at HS3 HB3
  have hle3 : b3 ≤ w3.heap.size := by rw [hb30]; exact Nat.le_refl _
  have hw3 : w.heap.size ≤ b3 := by rw [hb30]; exact hB3.size
  obtain ⟨S, hS⟩ : ∃ S, S = strL (strF key at') n := ⟨_, rfl⟩
  have HSS : Kp _ := ⟨hS⟩
  rw [← hS] at HS3 hXl
  clear hS hown hs3 HK2 HT2 HC2 HB2 hb3 hB2 hb30
  go_wp2
  go_loopw [8, 9] (fun v i wr => ∃ j : Nat, j ≤ n ∧ i = .int .i64 j ∧ Hid (wr.ownsRow b3 5 1 v j (cells8 (addL b S j))) ∧ Below b3 w3 wr) (fun _ i _ => n - (intOf i).toNat)
  case atStart => exact ⟨0, Nat.zero_le _, rfl, own_nil _ _ _, Below.refl _ _⟩
  case round =>
    obtain ⟨j, hj, rfl, H, hB⟩ := hrel
    by_cases hlt : j < n
    · have hsz := Nat.le_trans hle3 hB.size
      obtain ⟨b1, o1, rfl, hb1, hc1⟩ := (HB3.out.below hB).cell (i := j) (by omega)
      obtain ⟨b2, o2, rfl, hb2, hc2⟩ := (HS3.out.below hB).cell (i := j) (by omega)
      have HS : Kp _ := ⟨addL_succ b S j⟩
      have e1 : b.getD j 0 = b[j]'(by rw [hbl.out]; omega) := by simp [List.getD, List.getElem?_eq_getElem (show j < b.length by rw [hbl.out]; omega)]
      have e2 : S.getD j 0 = S[j]'(by rw [hXl.out]; omega) := by simp [List.getD, List.getElem?_eq_getElem (show j < S.length by rw [hXl.out]; omega)]
      rw [← e1] at hc1
      rw [← e2] at hc2
      clear e1 e2
      generalize b.getD j 0 = x at *
      generalize S.getD j 0 = y at *
      have q1 : ∀ W, Below b3 wr W → W.cell? ⟨b1, o1 + j, none⟩ = some (.int .u8 (x.toNat : Int)) := fun W hW => (hW.cell (p := ⟨b1, o1 + j, none⟩) hb1).trans hc1
      have q2 : ∀ W, Below b3 wr W → W.cell? ⟨b2, o2 + j, none⟩ = some (.int .u8 (y.toNat : Int)) := fun W hW => (hW.cell (p := ⟨b2, o2 + j, none⟩) hb2).trans hc2
      have hjn : (j : Int) < (n : Int) := by omega
      clear hc1 hc2
      go_wp2_with fail
      refine wp_region_held_drew (S := fun W => Below b3 wr W) (by kernel_rfl) ((Below.refl _ _).drew) (fun hHeld => ?_)
      refine wpAnyH_take (i := 0) (oi := ⟨some 24, _, _, _, _, _⟩) (v := ?_) rfl (by kernel_rfl) (by kernel_rfl) (by kernel_rfl) (fun _ _ _ h => h) (Or.inl ⟨by rfl, by intro w hSw; go_simp; try rfl⟩) (by assumption) ?_
      try simp only [Act.put, List.setIfInBounds_toArray, List.set_cons_zero, List.set_cons_succ]
      refine wpAnyH_take (i := 1) (oi := ⟨some 25, _, _, _, _, _⟩) (v := ?_) rfl (by kernel_rfl) (by kernel_rfl) (by kernel_rfl) (fun _ _ _ h => h) (Or.inl ⟨by rfl, by intro w hSw; go_simp; try rfl⟩) (by assumption) ?_
      try simp only [Act.put, List.setIfInBounds_toArray, List.set_cons_zero, List.set_cons_succ]
      refine wpAnyH_take (i := 2) (oi := ⟨some 26, _, _, _, _, _⟩) (v := ?_) rfl (by kernel_rfl) (by kernel_rfl) (by kernel_rfl) (fun _ _ _ h => h) (Or.inl ⟨by rfl, by intro w hSw; go_simp; try rfl⟩) (by assumption) ?_
      try simp only [Act.put, List.setIfInBounds_toArray, List.set_cons_zero, List.set_cons_succ]
      refine wpAnyH_take (i := 3) (oi := ⟨some 27, _, _, _, _, _⟩) (v := ?_) rfl (by kernel_rfl) (by kernel_rfl) (by kernel_rfl) (fun _ _ _ h => h) (Or.inl ⟨by rfl, by intro w hSw; go_simp; try rfl⟩) (by assumption) ?_
      try simp only [Act.put, List.setIfInBounds_toArray, List.set_cons_zero, List.set_cons_succ]
      refine wpAnyH_take (i := 4) (oi := ⟨some 28, _, _, _, _, _⟩) (v := ?_) rfl (by kernel_rfl) (by kernel_rfl) (by kernel_rfl) (fun _ _ _ h => h) (Or.inl ⟨by rfl, by intro w hSw; go_simp; try rfl⟩) (by assumption) ?_
      try simp only [Act.put, List.setIfInBounds_toArray, List.set_cons_zero, List.set_cons_succ]
      refine wpAnyH_take (i := 5) (oi := ⟨some 29, _, _, _, _, _⟩) (v := ?_) rfl (by kernel_rfl) (by kernel_rfl) (by kernel_rfl) (fun _ _ _ h => h) (Or.inl ⟨by rfl, by intro w hSw; go_simp; try rfl⟩) (by assumption) ?_
      try simp only [Act.put, List.setIfInBounds_toArray, List.set_cons_zero, List.set_cons_succ]
      refine wpAnyH_take (i := 6) (oi := ⟨some 30, _, _, _, _, _⟩) (v := ?_) rfl (by kernel_rfl) (by kernel_rfl) (by kernel_rfl) (fun _ _ _ h => h) (Or.inl ⟨by rfl, by intro w hSw; go_simp; try rfl⟩) (by assumption) ?_
      try simp only [Act.put, List.setIfInBounds_toArray, List.set_cons_zero, List.set_cons_succ]
      refine wpAnyH_take (i := 7) (oi := ⟨some 31, _, _, _, _, _⟩) (v := ?_) rfl (by kernel_rfl) (by kernel_rfl) (by kernel_rfl) (fun _ _ _ h => h) (Or.inl ⟨by rfl, by intro w hSw; go_simp; try rfl⟩) (by assumption) ?_
      try simp only [Act.put, List.setIfInBounds_toArray, List.set_cons_zero, List.set_cons_succ]
      refine wpAnyH_take (i := 8) (oi := ⟨some 32, _, _, _, _, _⟩) (v := ?_) rfl (by kernel_rfl) (by kernel_rfl) (by kernel_rfl) (fun _ _ _ h => h) (Or.inl ⟨by rfl, by intro w hSw; go_simp; try rfl⟩) (by assumption) ?_
      try simp only [Act.put, List.setIfInBounds_toArray, List.set_cons_zero, List.set_cons_succ]
      refine wpAnyH_take (i := 9) (oi := ⟨some 33, _, _, _, _, _⟩) (v := ?_) rfl (by kernel_rfl) (by kernel_rfl) (by kernel_rfl) (fun _ _ _ h => h) (Or.inl ⟨by rfl, by intro w hSw; go_simp; try rfl⟩) (by assumption) ?_
      try simp only [Act.put, List.setIfInBounds_toArray, List.set_cons_zero, List.set_cons_succ]
      refine wpAnyH_ready (rs := [10]) (by kernel_rfl) (by simp) ?_
      refine AllReadyH.cons (o := ⟨some 34, _, _, _, _, _⟩) rfl (fun K hK => ?_) AllReadyH.nil
      go_simp
      refine hK.out _ _ (hHeld.alloc (by simpa using hsz) _) (fun hHeld2 => ?_)
      clear hK K hHeld
      have hHeld := hHeld2
      clear hHeld2
      try simp only [Act.put, List.setIfInBounds_toArray, List.set_cons_zero, List.set_cons_succ]
      refine wpAnyH_ready (rs := [11]) (by kernel_rfl) (by simp) ?_
      refine AllReadyH.cons (o := ⟨some 35, _, _, _, _, _⟩) rfl (fun K hK => ?_) AllReadyH.nil
      refine step_app1 (o := ⟨some 35, _, _, _, _, _⟩) wr.drew rfl el8 rfl (.tmp 24) (.tmp 34) rfl b3 _ j _ rfl H.out.drew rfl rfl (by simp only [maxLen]; omega) (by omega) (by simpa using hsz) ?_
      intro v' w52 H' hb' _ _ _
      refine hK.out _ _ ((Below.refl _ _).drew.trans hb') (fun hHeld2 => ?_)
      clear hK K hHeld
      have hHeld := hHeld2
      clear hHeld2
      try simp only [Act.put, List.setIfInBounds_toArray, List.set_cons_zero, List.set_cons_succ]
      refine wpAnyH_take (i := 12) (oi := ⟨some 8, _, _, _, _, _⟩) (v := ?_) rfl (by kernel_rfl) (by kernel_rfl) (by kernel_rfl) (fun _ _ _ h => h) (Or.inl ⟨by rfl, by intro w hSw; go_simp; try rfl⟩) (by assumption) ?_
      try simp only [Act.put, List.setIfInBounds_toArray, List.set_cons_zero, List.set_cons_succ]
      refine wpAnyH_done (by kernel_rfl) ?_ _
      have H2 : Hid (w52.ownsRow b3 5 1 v' (j + 1) (cells8 (addL b S (j + 1)))) := by
        show World.ownsRow _ _ _ _ _ _ _
        rw [HS.out, cells8_append]
        exact H'.out
      clear H H' q1 q2 HS
      go_wp2
      go_roundw
      case rel => exact ⟨j + 1, by omega, by go_num, H2, hB.trans hHeld⟩
      case measure => simp [intOf]; omega
    · obtain rfl : j = n := by omega
      obtain ⟨A', c', rfl, hbs⟩ := Bs.of_own H.out
      have HF : Kp _ := ⟨hbs⟩
      have hBf : Below w.heap.size w wr := hB3.trans (hB.mono hw3)
      clear H hbs
      go_wp2
      go_ret
      exact ⟨A', c', rfl, by rw [← HSS.out]; exact HF.out, hBf⟩
end
end Go.Proofs.YtckmobpjdpjocaaDoor

namespace Go.Proofs.YtckmobpjdpjocaaDoor
open Go.RowKit

section
variable {P : Program} {w : World} {ops : Array Oper} {o : Oper} {a : Act} {Q : Exit → Act → World → Prop} {t e : TypeId} {z : Value} {bytes : Nat}
theorem step_appB {K : Act → World → Prop} {C : Prop} (E : El P t e z bytes) (hgd : o.guard = none) (s x : Operand)
    (ho : o.op = .call { callee := .builtin .append, args := #[s, x], argTypes := #[t, t] })
    (base : Nat) (v : Value) (n : Nat) (xs : List Value) (hs : a.eval s = v) (hown : w.ownsRow base e 1 v n xs)
    (A : Option Addr) (m c : Nat) (news : List Value) (hx : a.eval x = .slice A m c) (hl : news.length = m) (_hm : 0 < m)
    (hsrc : ∀ ad, A = some ad → ∀ j u, news[j]? = some u → w.cell? (ad.add j) = some u) (hA : A ≠ none) (h1 : ∀ u ∈ news, u.oneCell' = true)
    (h63 : n + m ≤ maxLen) (hbytes : (n + m) * bytes ≤ 140737488355328) (hbase : base ≤ w.heap.size)
    (h : ∀ v' w', w'.ownsRow base e 1 v' (n + m) (xs ++ news) → Below base w w' → K (a.put o.dst v') w') :
    if Region.wanted o (yielded ops a.tmps) = true then Oper.wp P o a w K Q else C := by
  have hw : Region.wanted o (yielded ops a.tmps) = true := by simp [Region.wanted, hgd]
  rw [if_pos hw]
  obtain ⟨i, hi, hz0, hz1, hz2⟩ := info_parts E.info
  cases A with
  | none => exact absurd rfl hA
  | some ad =>
    obtain ⟨v', w', hrun, h2, h3, _, h5⟩ := run_append_own_at (P := P) w base t o.type e i z 1 bytes E.ty hi hz0 hz1 hz2 (by rw [E.one]; rfl) (by decide) v n xs hown ad m c news (by omega) (hsrc ad rfl) h1 h63 hbytes hbase
    unfold Oper.wp execOp
    simp only [ho, resolve, invoke, builtin, Sem.run_bind, Sem.run_pure, Result.andThen_ok, List.map_toArray, List.map_cons, List.map_nil, hs, hx, hrun]
    exact h v' w' h2 (below_of_grown hown hbase h3)
end
theorem addL_comm (l m : List UInt8) (j : Nat) : addL l m j = addL m l j := by
  simp [addL, UInt8.xor_comm]
theorem refxorL_any (KA : Option Addr) (kc : Nat) (BA : Option Addr) (bc : Nat) (key hd : List UInt8) (B : Option Addr) (c : Nat) (b : List UInt8) (w : World) (hc : CIs w w.heap.size KA kc (keysL boxB key) BA bc boxB) (ha : hd.length = 16) (hb : Bs w w.heap.size B 256 c b) :
    Calls Tryd.prog 27 #[.agg #[.slice KA 11 kc, .slice BA 256 bc], .agg (cells8 hd).toArray, .slice B 256 c] w fun e w' => ∃ A d, e = .returned (.slice A 256 d) ∧ Bs w' w'.heap.size A 256 d (xorL key hd b) ∧ Below w.heap.size w w' := by
  refine (refxor_any KA kc BA bc key hd B 256 c b w hc ha hb (by omega)).mono ?_
  rintro e w' ⟨A, d, rfl, h, hb⟩
  rw [addL_comm] at h
  exact ⟨A, d, rfl, h, hb⟩
end Go.Proofs.YtckmobpjdpjocaaDoor

namespace Go.Proofs.YtckmobpjdpjocaaDoor
open Go.RowKit

set_option maxRecDepth 100000 in
set_option maxHeartbeats 2000000 in
theorem refhide_bad (c0 c1 : Value) (e s : Nat) (A : Option Addr) (n c : Nat) (b : List UInt8) (w : World) (hn : 256 < n) (ha : Bs w w.heap.size A n c b) :
    Calls Tryd.prog 11 #[.agg #[c0, c1], .int .u64 e, .int .u32 s, .slice A n c] w fun x w' => x = .returned (.tuple #[.slice none 0 0, .int .i64 4]) ∧ Below w.heap.size w w' := by
  have hn2 := ha.cap
  have hn3 := ha.le
  have hnI : (256 : Int) < (n : Int) := by omega
  clear ha
  go_enter Tryd.func11, Tryd.ntmps11
  go_wp2_with (with_reducible refine wpList_box (o := ⟨some 4, _, _, _, _, _⟩) (cs := [c0, c1]) rfl (.tmp 0) rfl rfl ?_)
  intro w1 hk1 hb1 hs1
  clear hk1 hs1
  go_wp2
  go_ret2
  exact ⟨rfl, hb1⟩

set_option maxRecDepth 100000 in
set_option maxHeartbeats 4000000 in
theorem refhide_any (KA : Option Addr) (kc : Nat) (BA : Option Addr) (bc : Nat) (key : List UInt8) (e s : Nat) (A : Option Addr) (n c : Nat) (b : List UInt8) (w : World) (hC : CIs w w.heap.size KA kc (keysL boxB key) BA bc boxB) (he : e < 18446744073709551616) (hs : s < 4294967296) (hn : n ≤ 256) (ha : Bs w w.heap.size A n c b) :
    Calls Tryd.prog 11 #[.agg #[.slice KA 11 kc, .slice BA 256 bc], .int .u64 e, .int .u32 s, .slice A n c] w fun x w' => ∃ A' c', x = .returned (.tuple #[.slice A' 272 c', .int .i64 0]) ∧ Bs w' w'.heap.size A' 272 c' (hideL key e s b) ∧ Below w.heap.size w w' := by
  have HA : Kp _ := ⟨ha⟩
  have HC : Kp _ := ⟨hC⟩
  have HHl : Kp ((headL e s).length = 16) := ⟨headL_length e s⟩
  have HXl : Kp ((hideL key e s b).length = 272) := ⟨hideL_length key e s b⟩
  have HPl : Kp ((pad256 b).length = 256) := ⟨pad256_length b (by have := ha.len; omega)⟩
  have hn2 := ha.cap
  have hn3 := ha.le
  have hnI : (n : Int) ≤ 256 := by omega
  have HEs : Kp (e < 18446744073709551616 ∧ s < 4294967296) := ⟨⟨he, hs⟩⟩
  have HLc : Kp (([Value.slice KA 11 kc, .slice BA 256 bc] : List Value).length = 2) := ⟨rfl⟩
  clear ha hC he hs
  go_enter Tryd.func11, Tryd.ntmps11
  go_wp2_with (with_reducible refine wpList_box (o := ⟨some 4, _, _, _, _, _⟩) (cs := [.slice KA 11 kc, .slice BA 256 bc]) rfl (.tmp 0) rfl rfl ?_)
  intro w1 hk1 hb1 hs1
  have HA1 : Kp _ := ⟨HA.out.next hb1 (Nat.le_refl _)⟩
  have HC1 : Kp _ := ⟨HC.out.next hb1⟩
  have HK1 : Kp _ := ⟨hk1⟩
  clear hk1 hs1 HA HC
  go_wp2_with fail
  refine (refhead_any e s w1 HEs.out.1 HEs.out.2).mono ?_
  rintro x w2 ⟨rfl, hb2⟩
  have HA2 : Kp _ := ⟨HA1.out.next hb2 (Nat.le_refl _)⟩
  have HC2 : Kp _ := ⟨HC1.out.next hb2⟩
  have HK2 : Kp _ := ⟨HK1.out.below hb2 HK1.out.lt⟩
  have hB2 := hb1.trans (hb2.mono hb1.size)
  clear hb2 hb1 HA1 HC1 HK1
  obtain ⟨X, hX⟩ : ∃ P, P = hideL key e s b := ⟨_, rfl⟩
  have HGX : Kp _ := ⟨hX⟩
  rw [← hX] at HXl
  obtain ⟨Hd, hH⟩ : ∃ P, P = headL e s := ⟨_, rfl⟩
  have HGX2 : Kp (Hd ++ xorL key Hd (pad256 b) = X) := ⟨by rw [hX, hideL, ← hH]⟩
  rw [← hH] at HHl ⊢
  have HHc : Kp ((cells8 Hd).length = 16) := ⟨by rw [cells8_length]; exact HHl.out⟩
  have HZn : Kp (zero16.length = 16) := ⟨rfl⟩
  clear hX hH
  go_wp2_with (with_reducible refine wpList_alloc (o := ⟨some 10, _, _, _, _, _⟩) tyNonce rfl rfl ?_)
  intro w3 hk3 hb3 hs3
  have HT3 : Kp _ := ⟨hk3⟩
  have HA3 : Kp _ := ⟨HA2.out.next hb3 (Nat.le_refl _)⟩
  have HC3 : Kp _ := ⟨HC2.out.next hb3⟩
  have HK3 : Kp _ := ⟨HK2.out.below hb3 HK2.out.lt⟩
  have h1 : w.heap.size < w2.heap.size := HK2.out.lt
  have hB3 := hB2.trans (hb3.mono hB2.size)
  have hgE : Kp (∀ w', Only w2.heap.size w3 w' → Below w2.heap.size w2 w') := ⟨fun w' ho => hb3.trans (ho.below (Nat.le_refl _))⟩
  have hsz := hk3.lt
  obtain ⟨g, hg⟩ : ∃ g, g = w2.heap.size := ⟨_, rfl⟩
  rw [← hg] at HT3 h1 hgE hsz ⊢
  have HGg : Kp _ := ⟨hg⟩
  clear hk3 hs3 hb3 HC3 HA3 hg
  go_wp2_with (with_reducible refine wpList_storeAll (o := ⟨none, _, _, _, _, _⟩) (vs := cells8 Hd) rwNonce rfl (.tmp 10) (.tmp 18) rfl rfl HT3.out HZn.out HHc.out (cells8_one _) rfl ?_)
  intro w7 hk7 ho7
  have HT7 : Kp _ := ⟨hk7⟩
  have hb7 : Below w2.heap.size w2 w7 := by have h := hgE.out w7 ho7; rwa [HGg.out] at h
  have HA7 : Kp _ := ⟨HA2.out.next hb7 (Nat.le_refl _)⟩
  have HC7 : Kp _ := ⟨HC2.out.next hb7⟩
  have HK7 : Kp _ := ⟨HK2.out.below hb7 HK2.out.lt⟩
  have hB7 := hB2.trans (hb7.mono hB2.size)
  clear hk7 ho7 hb7 HT3 HA2 HC2 HK2 HK3 hB3 hgE hsz HGg hB2
  go_wp2
  go_loopw [11, 12] (fun v i wr => ∃ j : Nat, j ≤ 16 ∧ i = .int .i64 j ∧ Hid (wr.ownsRow w7.heap.size 5 1 v j (cells8 (Hd.take j))) ∧ Below w7.heap.size w7 wr) (fun _ i _ => 16 - (intOf i).toNat)
  case atStart => exact ⟨0, Nat.zero_le _, rfl, own_nil _ _ _, Below.refl _ _⟩
  case round =>
    obtain ⟨j, hj, rfl, H, hB⟩ := hrel
    by_cases hlt : j < 16
    · have hjl : j < Hd.length := by rw [HHl.out]; exact hlt
      have hc := (HT7.out.below hB HT7.out.lt).cell (i := j) (by rw [cells8_length]; exact hjl)
      have HS : Kp (cells8 (Hd.take (j + 1)) = cells8 (Hd.take j) ++ [.int .u8 (Hd[j].toNat : Int)]) := ⟨by rw [List.take_succ_eq_append_getElem hjl, cells8_append]; rfl⟩
      have ec : (cells8 Hd)[j]'(by rw [cells8_length]; exact hjl) = .int .u8 (Hd[j].toNat : Int) := by simp [cells8]
      rw [ec] at hc
      have hjI : (j : Int) < 16 := by omega
      clear ec
      generalize Hd[j] = y at *
      have hsz := hB.size
      go_wp2_with (at_builtin; refine wpList_app1 el8 rfl _ _ rfl w7.heap.size _ j _ rfl H.out rfl rfl (by simp only [maxLen]; omega) (by omega) hsz ?_)
      intro v' w' H' hb' _ _
      have H2 : Hid (w'.ownsRow w7.heap.size 5 1 v' (j + 1) (cells8 (Hd.take (j + 1)))) := by rw [HS.out]; exact H'
      clear H H'
      go_wp2
      go_roundw
      case rel => exact ⟨j + 1, by omega, by go_num, H2, hB.trans hb'⟩
      case measure => simp [intOf]; omega
    · obtain rfl : j = 16 := by omega
      have H2 := H.out
      rw [List.take_of_length_le (by rw [HHl.out]; exact Nat.le_refl _)] at H2
      have HO : Kp _ := ⟨own_below H2 (Below.refl _ _).drew⟩
      have hsz : w7.heap.size ≤ wr.heap.size := hB.size
      have HS : Kp (SD w7 wr w.heap.size 36 [.slice KA 11 kc, .slice BA 256 bc] g 39 (cells8 Hd)) := ⟨⟨hB, HK7.out.below hB HK7.out.lt, HT7.out.below hB HT7.out.lt, HK7.out.lt, HT7.out.lt⟩⟩
      have HA8 := HA7
      have HC8 := HC7
      have hB8 := hB7
      have h78 := hB7.size
      clear H H2 HA7 HC7 HK7 HT7 hB hB7 hlt hj
      go_wp2_with fail
      refine wp_region_held_drew (S := fun W => SD w7 W w.heap.size 36 [.slice KA 11 kc, .slice BA 256 bc] g 39 (cells8 Hd)) (by kernel_rfl) (HS.out.drew) (fun hHeld => ?_)
      generalize wr.drew = wS at *
      refine wpAnyH_take (i := 0) (oi := ⟨some 29, _, _, _, _, _⟩) (v := ?_) rfl (by kernel_rfl) (by kernel_rfl) (by kernel_rfl) (fun _ _ _ h => h) (Or.inl ⟨by rfl, by intro w hSw; go_simp; try rfl⟩) (by assumption) ?_
      try simp only [Act.put, List.setIfInBounds_toArray, List.set_cons_zero, List.set_cons_succ]
      refine wpAnyH_take (i := 1) (oi := ⟨some 30, _, _, _, _, _⟩) (v := _) rfl (by kernel_rfl) (by kernel_rfl) (by kernel_rfl) (fun _ _ _ h => h) (yieldsIf_load_mid (by rfl) 36 (.tmp 4) rfl w.heap.size 0 rfl [.slice KA 11 kc, .slice BA 256 bc] _ (fun W hW => hW.a.all) rwC.ty rwC.row rwC.size) (by assumption) ?_
      try simp only [Act.put, List.setIfInBounds_toArray, List.set_cons_zero, List.set_cons_succ]
      refine wpAnyH_take (i := 2) (oi := ⟨some 31, _, _, _, _, _⟩) (v := _) rfl (by kernel_rfl) (by kernel_rfl) (by kernel_rfl) (fun _ _ _ h => h) (yieldsIf_load_mid (by rfl) 39 (.tmp 10) rfl g 0 rfl (cells8 Hd) _ (fun W hW => hW.b.all) rwNonce.ty rwNonce.row (by rw [rwNonce.size, HHc.out])) (by assumption) ?_
      try simp only [Act.put, List.setIfInBounds_toArray, List.set_cons_zero, List.set_cons_succ]
      refine wpAnyH_take (i := 3) (oi := ⟨some 32, _, _, _, _, _⟩) (v := ?_) rfl (by kernel_rfl) (by kernel_rfl) (by kernel_rfl) (fun _ _ _ h => h) (Or.inl ⟨by rfl, by intro w hSw; go_simp; try rfl⟩) (by assumption) ?_
      try simp only [Act.put, List.setIfInBounds_toArray, List.set_cons_zero, List.set_cons_succ]
      refine wpAnyH_ready (rs := [4]) (by kernel_rfl) (by simp) ?_
      refine AllReadyH.cons (o := ⟨some 33, _, _, _, _, _⟩) rfl (fun K hK => ?_) AllReadyH.nil
      have HA9 : Kp _ := ⟨HA8.out.next hHeld.below (Nat.le_refl _)⟩
      go_simp
      refine (rpad256_any A n c b wS HA9.out hn).mono ?_
      rintro x w51 ⟨A3, d3, rfl, hx3, hb'⟩
      have HX3 : Kp _ := ⟨hx3⟩
      replace HO : Kp _ := ⟨own_below HO.out hb'⟩
      refine hK.out _ _ (hHeld.next hb') (fun hHeld2 => ?_)
      clear hb' hx3 HA9
      clear hK K hHeld
      have hHeld := hHeld2
      clear hHeld2
      try simp only [Act.put, List.setIfInBounds_toArray, List.set_cons_zero, List.set_cons_succ]
      refine wpAnyH_ready (rs := [5]) (by kernel_rfl) (by simp) ?_
      refine AllReadyH.cons (o := ⟨some 34, _, _, _, _, _⟩) rfl (fun K hK => ?_) AllReadyH.nil
      have HC9 : Kp _ := ⟨HC8.out.next hHeld.below⟩
      go_simp
      refine (refxorL_any KA kc BA bc key Hd A3 d3 (pad256 b) w51 HC9.out HHl.out HX3.out).mono ?_
      rintro x w52 ⟨A5, d5, rfl, hx5, hb'⟩
      have HX5 : Kp _ := ⟨hx5⟩
      replace HO : Kp _ := ⟨own_below HO.out hb'⟩
      replace HX5 : Kp _ := ⟨hx5⟩
      refine hK.out _ _ (hHeld.next hb') (fun hHeld2 => ?_)
      clear hb' hx5 HC9 HX3
      clear hK K hHeld
      have hHeld := hHeld2
      clear hHeld2
      try simp only [Act.put, List.setIfInBounds_toArray, List.set_cons_zero, List.set_cons_succ]
      refine wpAnyH_ready (rs := [6]) (by kernel_rfl) (by simp) ?_
      refine AllReadyH.cons (o := ⟨some 35, _, _, _, _, _⟩) rfl (fun K hK => ?_) AllReadyH.nil
      have HO9 := HO
      have hsz9 := hHeld.below.size
      refine step_appB (o := ⟨some 35, _, _, _, _, _⟩) el8 rfl (.tmp 29) (.tmp 34) rfl w7.heap.size _ 16 _ rfl HO9.out A5 256 d5 (cells8 (xorL key Hd (pad256 b))) rfl (by rw [cells8_length, xorL_length]) (by omega) HX5.out.news (fun hnn => by have q1 := HX5.out.nil hnn; have q2 := HX5.out.cap; omega) (cells8_one _) (by simp [maxLen]) (by omega) (by omega) ?_
      intro v6 w53 hx6 hb'
      have HX6 : Kp _ := ⟨hx6⟩
      have hBf := hB8.trans ((hHeld.below.trans hb').mono hB8.size)
      refine hK.out _ _ ⟨hHeld.below.trans hb', hHeld.a.below hb' hHeld.la, hHeld.b.below hb' hHeld.lb, hHeld.la, hHeld.lb⟩ (fun hHeld2 => ?_)
      clear hb' hx6 HO9 HX5
      clear hK K hHeld
      have hHeld := hHeld2
      clear hHeld2
      try simp only [Act.put, List.setIfInBounds_toArray, List.set_cons_zero, List.set_cons_succ]
      refine wpAnyH_take (i := 7) (oi := ⟨some 11, _, _, _, _, _⟩) (v := ?_) rfl (by kernel_rfl) (by kernel_rfl) (by kernel_rfl) (fun _ _ _ h => h) (Or.inl ⟨by rfl, by intro w hSw; go_simp; try rfl⟩) (by assumption) ?_
      try simp only [Act.put, List.setIfInBounds_toArray, List.set_cons_zero, List.set_cons_succ]
      refine wpAnyH_done (by kernel_rfl) ?_ _
      clear hHeld
      rw [← cells8_append, HGX2.out] at HX6
      obtain ⟨A6, d6, rfl, hx6⟩ := Bs.of_own HX6.out
      have HX7 : Kp _ := ⟨hx6⟩
      clear hx6 HX6
      go_wp2
      go_ret2
      exact ⟨A6, d6, rfl, by rw [← HGX.out]; exact HX7.out, hBf⟩
end Go.Proofs.YtckmobpjdpjocaaDoor

namespace Go.Proofs.YtckmobpjdpjocaaDoor
open Go.RowKit

theorem refget_st (A : Option Addr) (n c : Nat) (xs : List UInt8) (w : World) (L : Nat) (ha : Bs w L A n c xs) :
    Calls Tryd.prog 35 #[.slice A n c] w fun e w' => e = .returned (.int .u64 ((getN xs % 18446744073709551616 : Nat) : Int)) ∧ w' = w := (refget_any A n c xs w L ha).mono fun _ _ h => ⟨h.1, h.2.symm⟩
theorem tail_cells {w : World} {B : Nat} {A : Option Addr} {c : Nat} {b : List UInt8} (h : Bs w B A 272 c b) :
    ∃ g o, A = some ⟨g, o, none⟩ ∧ g < B ∧ (∀ i, i < 272 → w.cell? ⟨g, o + i, none⟩ = some (.int .u8 ((b.getD i 0).toNat : Int))) ∧ (b.drop 12).take 4 = [b.getD 12 0, b.getD 13 0, b.getD 14 0, b.getD 15 0] := by
  obtain ⟨g, o, rfl, hg, _⟩ := h.cell (i := 0) (by omega)
  have hl := h.len
  refine ⟨g, o, rfl, hg, fun i hi => ?_, ?_⟩
  · obtain ⟨g3, o3, e3, _, h3⟩ := h.cell (i := i) hi
    injection e3 with e3; injection e3 with e3 f3; subst e3 f3
    rw [h3]
    simp [List.getD, List.getElem?_eq_getElem (show i < b.length by omega)]
  · refine List.ext_getElem (by simp [hl]) fun i q1 q2 => ?_
    rw [List.getElem_take, List.getElem_drop]
    simp at q2
    rcases (by omega : i = 0 ∨ i = 1 ∨ i = 2 ∨ i = 3) with rfl | rfl | rfl | rfl <;> simp [List.getD, hl]
theorem u8_ne {y : UInt8} (h : y ≠ 0) : ((y.toNat : Int) != 0) = true := by
  have h2 : y.toNat ≠ 0 := fun h2 => h (UInt8.toNat_inj.1 h2)
  simp only [bne_iff_ne, ne_eq]
  omega
set_option maxRecDepth 100000 in
theorem refwhen_long (A : Option Addr) (n c : Nat) (b : List UInt8) (w : World) (ha : Bs w w.heap.size A n c b) (hn : n ≠ 272) :
    Calls Tryd.prog 19 #[.slice A n c] w fun x w' => x = .returned (.tuple #[.int .u64 0, .int .u32 0, .int .i64 4]) ∧ w = w' := by
  have hnI : (n : Int) = 272 → False := by omega
  have hn2 := ha.cap
  have hn3 := ha.le
  clear ha
  go_enter Tryd.func19, Tryd.ntmps19
  go_wp2
  refine bodyPost_ret (results_tmp3 rfl _ _ _) rfl ?_
  exact ⟨rfl, rfl⟩
set_option maxRecDepth 100000 in
set_option maxHeartbeats 2000000 in
theorem refwhen_tail (A : Option Addr) (c : Nat) (b : List UInt8) (w : World) (ha : Bs w w.heap.size A 272 c b) (h : (b.drop 12).take 4 ≠ z4) :
    Calls Tryd.prog 19 #[.slice A 272 c] w fun x w' => x = .returned (.tuple #[.int .u64 0, .int .u32 0, .int .i64 4]) ∧ w = w' := by
  have hl := ha.len
  have hn2 := ha.cap
  have hn3 := ha.le
  obtain ⟨g, o, rfl, hg, hce, hz⟩ := tail_cells ha
  have h12 := hce 12 (by omega)
  have h13 := hce 13 (by omega)
  have h14 := hce 14 (by omega)
  have h15 := hce 15 (by omega)
  clear hce
  rw [hz] at h
  generalize b.getD 12 0 = y12 at *
  generalize b.getD 13 0 = y13 at *
  generalize b.getD 14 0 = y14 at *
  generalize b.getD 15 0 = y15 at *
  clear ha hz hl
  go_enter Tryd.func19, Tryd.ntmps19
  by_cases q12 : y12 = 0
  · subst q12
    rw [show ((0 : UInt8).toNat : Int) = 0 from rfl] at h12
    by_cases q13 : y13 = 0
    · subst q13
      rw [show ((0 : UInt8).toNat : Int) = 0 from rfl] at h13
      by_cases q14 : y14 = 0
      · subst q14
        rw [show ((0 : UInt8).toNat : Int) = 0 from rfl] at h14
        have q15 : y15 ≠ 0 := fun q => h (by rw [q]; rfl)
        have e15 := u8_ne q15
        clear h q15
        go_wp2
        refine bodyPost_ret (results_tmp3 rfl _ _ _) rfl ?_
        exact ⟨rfl, rfl⟩
      · have e14 := u8_ne q14
        clear h q14
        go_wp2
        refine bodyPost_ret (results_tmp3 rfl _ _ _) rfl ?_
        exact ⟨rfl, rfl⟩
    · have e13 := u8_ne q13
      clear h q13
      go_wp2
      refine bodyPost_ret (results_tmp3 rfl _ _ _) rfl ?_
      exact ⟨rfl, rfl⟩
  · have e12 := u8_ne q12
    clear h q12
    go_wp2
    refine bodyPost_ret (results_tmp3 rfl _ _ _) rfl ?_
    exact ⟨rfl, rfl⟩
theorem refwhen_bad (A : Option Addr) (n c : Nat) (b : List UInt8) (w : World) (ha : Bs w w.heap.size A n c b) (h : wrongL b) :
    Calls Tryd.prog 19 #[.slice A n c] w fun x w' => x = .returned (.tuple #[.int .u64 0, .int .u32 0, .int .i64 4]) ∧ w = w' := by
  have hl := ha.len
  by_cases hn : n = 272
  · subst hn
    exact refwhen_tail A c b w ha (h.resolve_left (by omega))
  · exact refwhen_long A n c b w ha hn
set_option maxRecDepth 100000 in
set_option maxHeartbeats 4000000 in
theorem refwhen_any (A : Option Addr) (n c : Nat) (b : List UInt8) (w : World) (ha : Bs w w.heap.size A n c b) (h : ¬ wrongL b) :
    Calls Tryd.prog 19 #[.slice A n c] w fun x w' => x = .returned (.tuple #[.int .u64 (getN (b.take 8) : Nat), .int .u32 (getN ((b.drop 8).take 4) : Nat), .int .i64 0]) ∧ Below w.heap.size w w' := by
  have hl := ha.len
  have hbl : b.length = 272 := Classical.not_not.1 fun h3 => h (.inl h3)
  have hzz : (b.drop 12).take 4 = z4 := Classical.not_not.1 fun h3 => h (.inr h3)
  obtain rfl : n = 272 := by omega
  have HA : Kp _ := ⟨ha⟩
  have hn2 := ha.cap
  have hn3 := ha.max
  simp only [maxLen] at hn3
  obtain ⟨g, o, rfl, hg, hce, hz⟩ := tail_cells ha
  have h12 := hce 12 (by omega)
  have h13 := hce 13 (by omega)
  have h14 := hce 14 (by omega)
  have h15 := hce 15 (by omega)
  clear hce
  rw [hzz] at hz
  obtain ⟨q12, q13, q14, q15⟩ : b.getD 12 0 = 0 ∧ b.getD 13 0 = 0 ∧ b.getD 14 0 = 0 ∧ b.getD 15 0 = 0 := by
    unfold z4 at hz
    injection hz with a1 hz; injection hz with a2 hz; injection hz with a3 hz; injection hz with a4 hz
    exact ⟨a1.symm, a2.symm, a3.symm, a4.symm⟩
  rw [q12, show ((0 : UInt8).toNat : Int) = 0 from rfl] at h12
  rw [q13, show ((0 : UInt8).toNat : Int) = 0 from rfl] at h13
  rw [q14, show ((0 : UInt8).toNat : Int) = 0 from rfl] at h14
  rw [q15, show ((0 : UInt8).toNat : Int) = 0 from rfl] at h15
  have HL4 : Kp (((b.drop 8).take 4).length = 4) := ⟨by simp [hbl]⟩
  have HL8 : Kp ((b.take 8).length = 8) := ⟨by simp [hbl]⟩
  have hlt : getN ((b.drop 8).take 4) < 4294967296 := by have := getN_lt ((b.drop 8).take 4); rw [HL4.out] at this; exact this
  have hlt8 : getN (b.take 8) < 18446744073709551616 := by have := getN_lt (b.take 8); rw [HL8.out] at this; exact this
  have HG1 : Kp (∀ W, Below w.heap.size w W → Bs W w.heap.size (some ⟨g, o, none⟩) 8 c (b.take 8)) := ⟨fun W hW => by
    have h1 := (HA.out.cut (i := 0) (k := 8) (by omega) (by omega)).below hW
    simpa [show c ≠ 0 by omega, Addr.add_lit] using h1⟩
  have HG2 : Kp (∀ W, Below w.heap.size w W → Bs W w.heap.size (some ⟨g, o + 8, none⟩) 4 (c - 8) ((b.drop 8).take 4)) := ⟨fun W hW => by
    have h1 := (HA.out.cut (i := 8) (k := 12) (by omega) (by omega)).below hW
    have hne : c ≠ 8 := by omega
    rw [List.drop_take] at h1
    simpa [hne, Addr.add_lit] using h1⟩
  obtain ⟨N1, hN1⟩ : ∃ N, N = getN (b.take 8) := ⟨_, rfl⟩
  obtain ⟨N2, hN2⟩ : ∃ N, N = getN ((b.drop 8).take 4) := ⟨_, rfl⟩
  have HN1 : Kp _ := ⟨hN1⟩
  have HN2 : Kp _ := ⟨hN2⟩
  rw [← hN2] at hlt
  rw [← hN1] at hlt8
  have HC1 : Kp (∀ W, Below w.heap.size w W → Calls Tryd.prog 35 #[.slice (some ⟨g, o, none⟩) 8 c] W fun e w' => e = .returned (.int .u64 (N1 : Nat)) ∧ w' = W) := ⟨fun W hW => by
    have h1 := refget_st _ _ _ _ W _ (HG1.out W hW)
    rwa [← hN1, Nat.mod_eq_of_lt hlt8] at h1⟩
  have HC2 : Kp (∀ W, Below w.heap.size w W → Calls Tryd.prog 35 #[.slice (some ⟨g, o + 8, none⟩) 4 (c - 8)] W fun e w' => e = .returned (.int .u64 (N2 : Nat)) ∧ w' = W) := ⟨fun W hW => by
    have h1 := refget_st _ _ _ _ W _ (HG2.out W hW)
    rwa [← hN2, Nat.mod_eq_of_lt (by omega)] at h1⟩
  have HLT : Kp (N2 < 4294967296) := ⟨hlt⟩
  clear hlt hlt8 hN1 hN2 HG1 HG2 hz hzz ha q12 q13 q14 q15 h hl hbl HA
  go_enter Tryd.func19, Tryd.ntmps19
  go_wp2_with fail
  refine wp_region_held_drew (S := fun W => Below w.heap.size w W) (by kernel_rfl) ((Below.refl _ _).drew) (fun hHeld => ?_)
  generalize w.drew = wS at *
  refine wpAnyH_take (i := 0) (oi := ⟨some 32, _, _, _, _, _⟩) (v := ?_) rfl (by kernel_rfl) (by kernel_rfl) (by kernel_rfl) (fun _ _ _ h => h) (Or.inl ⟨by rfl, by intro w hSw; go_simp; try rfl⟩) (by assumption) ?_
  try simp only [Act.put, List.setIfInBounds_toArray, List.set_cons_zero, List.set_cons_succ]
  refine wpAnyH_take (i := 1) (oi := ⟨some 33, _, _, _, _, _⟩) (v := _) rfl (by kernel_rfl) (by kernel_rfl) (by kernel_rfl) (fun _ _ _ h => h) (yieldsIf_cut_h (by rfl) el8 (.tmp 32) (.const (.int .i64 8)) rfl rfl rfl 8 rfl (by omega)) (by assumption) ?_
  try simp only [Act.put, List.setIfInBounds_toArray, List.set_cons_zero, List.set_cons_succ]
  refine wpAnyH_take (i := 3) (oi := ⟨some 35, _, _, _, _, _⟩) (v := ?_) rfl (by kernel_rfl) (by kernel_rfl) (by kernel_rfl) (fun _ _ _ h => h) (Or.inl ⟨by rfl, by intro w hSw; go_simp; try rfl⟩) (by assumption) ?_
  try simp only [Act.put, List.setIfInBounds_toArray, List.set_cons_zero, List.set_cons_succ]
  refine wpAnyH_take (i := 4) (oi := ⟨some 36, _, _, _, _, _⟩) (v := _) rfl (by kernel_rfl) (by kernel_rfl) (by kernel_rfl) (fun _ _ _ h => h) ((yields_cut_lh (by rfl) el8 (.tmp 35) (.const (.int .i64 8)) (.const (.int .i64 12)) rfl rfl rfl rfl 8 12 rfl rfl (by omega) (by omega) (A' := some ⟨g, o + 8, none⟩) (n' := 4) (c' := c - 8) (by rw [if_neg (by omega)]; simp [Addr.add_lit]) rfl rfl).imp (fun h => ⟨h.1, fun w _ => h.2 w⟩) id) (by assumption) ?_
  try simp only [Act.put, List.setIfInBounds_toArray, List.set_cons_zero, List.set_cons_succ]
  refine wpAnyH_ready (rs := [2]) (by kernel_rfl) (by simp) ?_
  refine AllReadyH.cons (o := ⟨some 34, _, _, _, _, _⟩) rfl (fun K hK => ?_) AllReadyH.nil
  go_simp
  refine (HC1.out wS hHeld).mono ?_
  rintro x w51 ⟨rfl, rfl⟩
  refine hK.out _ _ hHeld (fun hHeld2 => ?_)
  clear hK K hHeld
  have hHeld := hHeld2
  clear hHeld2
  try simp only [Act.put, List.setIfInBounds_toArray, List.set_cons_zero, List.set_cons_succ]
  refine wpAnyH_ready (rs := [5]) (by kernel_rfl) (by simp) ?_
  refine AllReadyH.cons (o := ⟨some 37, _, _, _, _, _⟩) rfl (fun K hK => ?_) AllReadyH.nil
  go_simp
  refine (HC2.out w51 hHeld).mono ?_
  rintro x w52 ⟨rfl, rfl⟩
  refine hK.out _ _ hHeld (fun hHeld2 => ?_)
  clear hK K hHeld
  have hHeld := hHeld2
  clear hHeld2
  try simp only [Act.put, List.setIfInBounds_toArray, List.set_cons_zero, List.set_cons_succ]
  refine wpAnyH_take (i := 6) (oi := ⟨some 38, _, _, _, _, _⟩) (v := ?_) rfl (by kernel_rfl) (by kernel_rfl) (by kernel_rfl) (fun _ _ _ h => h) (Or.inl ⟨by rfl, by intro w hSw; go_simp; try rfl⟩) (by assumption) ?_
  try simp only [Act.put, List.setIfInBounds_toArray, List.set_cons_zero, List.set_cons_succ]
  refine wpAnyH_take (i := 7) (oi := ⟨some 2, _, _, _, _, _⟩) (v := ?_) rfl (by kernel_rfl) (by kernel_rfl) (by kernel_rfl) (fun _ _ _ h => h) (Or.inl ⟨by rfl, by intro w hSw; go_simp; try rfl⟩) (by assumption) ?_
  try simp only [Act.put, List.setIfInBounds_toArray, List.set_cons_zero, List.set_cons_succ]
  refine wpAnyH_take (i := 8) (oi := ⟨some 3, _, _, _, _, _⟩) (v := ?_) rfl (by kernel_rfl) (by kernel_rfl) (by kernel_rfl) (fun _ _ _ h => h) (Or.inl ⟨by rfl, by intro w hSw; go_simp; try rfl⟩) (by assumption) ?_
  try simp only [Act.put, List.setIfInBounds_toArray, List.set_cons_zero, List.set_cons_succ]
  refine wpAnyH_take (i := 9) (oi := ⟨some 4, _, _, _, _, _⟩) (v := ?_) rfl (by kernel_rfl) (by kernel_rfl) (by kernel_rfl) (fun _ _ _ h => h) (Or.inl ⟨by rfl, by intro w hSw; go_simp; try rfl⟩) (by assumption) ?_
  try simp only [Act.put, List.setIfInBounds_toArray, List.set_cons_zero, List.set_cons_succ]
  refine wpAnyH_done (by kernel_rfl) ?_ _
  have hB := hHeld
  clear hHeld
  go_wp2
  refine bodyPost_ret (results_tmp3 rfl _ _ _) rfl ?_
  have hltI : (N2 : Int) < 4294967296 := by have := HLT.out; omega
  refine ⟨?_, hB⟩
  rw [← HN1.out, ← HN2.out]
  show Ending.returned (.tuple #[.int .u64 (N1 : Int), .int .u32 (IntKind.u32.wrap (N2 : Int)), .int .i64 0]) = _
  rw [IntKind.wrap_u32, Int.emod_eq_of_lt (by omega) hltI]

set_option maxRecDepth 100000 in
set_option maxHeartbeats 2000000 in
theorem refshow_bad (c0 c1 : Value) (A : Option Addr) (n c : Nat) (b : List UInt8) (w : World) (ha : Bs w w.heap.size A n c b) (h : wrongL b) :
    Calls Tryd.prog 17 #[.agg #[c0, c1], .slice A n c] w fun x w' => x = .returned (.tuple #[.slice none 0 0, .int .i64 4]) ∧ Below w.heap.size w w' := by
  have HA : Kp _ := ⟨ha⟩
  clear ha
  go_enter Tryd.func17, Tryd.ntmps17
  go_wp2_with (with_reducible refine wpList_box (o := ⟨some 2, _, _, _, _, _⟩) (cs := [c0, c1]) rfl (.tmp 0) rfl rfl ?_)
  intro w1 hk1 hb1 hs1
  have HA1 : Kp _ := ⟨HA.out.next hb1 (Nat.le_refl _)⟩
  clear hk1 hs1 HA
  go_wp2_with fail
  refine (refwhen_bad A n c b w1 HA1.out h).mono ?_
  rintro x w2 ⟨rfl, rfl⟩
  go_wp2
  go_ret2
  exact ⟨rfl, hb1⟩
set_option maxRecDepth 100000 in
set_option maxHeartbeats 4000000 in
theorem refshow_any (KA : Option Addr) (kc : Nat) (BA : Option Addr) (bc : Nat) (key : List UInt8) (A : Option Addr) (n c : Nat) (b : List UInt8) (w : World) (hC : CIs w w.heap.size KA kc (keysL boxB key) BA bc boxB) (ha : Bs w w.heap.size A n c b) (h : ¬ wrongL b) :
    Calls Tryd.prog 17 #[.agg #[.slice KA 11 kc, .slice BA 256 bc], .slice A n c] w fun x w' => ∃ A' c', x = .returned (.tuple #[.slice A' 256 c', .int .i64 0]) ∧ Bs w' w'.heap.size A' 256 c' (showL key b) ∧ Below w.heap.size w w' := by
  have hl := ha.len
  have hbl : b.length = 272 := Classical.not_not.1 fun h3 => h (.inl h3)
  obtain rfl : n = 272 := by omega
  have HA : Kp _ := ⟨ha⟩
  have HC : Kp _ := ⟨hC⟩
  have hn2 := ha.cap
  have hn3 := ha.max
  simp only [maxLen] at hn3
  have HH : Kp _ := ⟨head_of b h⟩
  have HL4 : Kp (((b.drop 8).take 4).length = 4) := ⟨by simp [hbl]⟩
  have HL8 : Kp ((b.take 8).length = 8) := ⟨by simp [hbl]⟩
  have HLh : Kp ((b.take 16).length = 16) := ⟨by simp [hbl]⟩
  have HLT : Kp (getN ((b.drop 8).take 4) < 4294967296) := ⟨by have := getN_lt ((b.drop 8).take 4); rw [HL4.out] at this; exact this⟩
  have HLT8 : Kp (getN (b.take 8) < 18446744073709551616) := ⟨by have := getN_lt (b.take 8); rw [HL8.out] at this; exact this⟩
  have HNW : Kp _ := ⟨h⟩
  obtain ⟨g, o, rfl, hg, _⟩ := tail_cells ha
  have HTl : Kp (∀ W, Below w.heap.size w W → Bs W w.heap.size (some ⟨g, o + 16, none⟩) 256 (c - 16) (b.drop 16)) := ⟨fun W hW => by
    have h1 := (HA.out.cut (i := 16) (k := 272) (by omega) (by omega)).below hW
    have hne : c ≠ 16 := by omega
    rw [List.take_of_length_le (by omega)] at h1
    simpa [hne, Addr.add_lit] using h1⟩
  have HLc : Kp (([Value.slice KA 11 kc, .slice BA 256 bc] : List Value).length = 2) := ⟨rfl⟩
  clear ha hC h hl hbl
  go_enter Tryd.func17, Tryd.ntmps17
  go_wp2_with (with_reducible refine wpList_box (o := ⟨some 2, _, _, _, _, _⟩) (cs := [.slice KA 11 kc, .slice BA 256 bc]) rfl (.tmp 0) rfl rfl ?_)
  intro w1 hk1 hb1 hs1
  have HA1 : Kp _ := ⟨HA.out.next hb1 (Nat.le_refl _)⟩
  have HK1 : Kp _ := ⟨hk1⟩
  clear hk1 hs1 HA
  go_wp2_with fail
  refine (refwhen_any _ 272 c b w1 HA1.out HNW.out).mono ?_
  rintro x w2 ⟨rfl, hb2⟩
  have HK2 : Kp _ := ⟨HK1.out.below hb2 HK1.out.lt⟩
  have hB2 := hb1.trans (hb2.mono hb1.size)
  have h12 := HK1.out.lt
  obtain ⟨N1, hN1⟩ : ∃ N, N = getN (b.take 8) := ⟨_, rfl⟩
  obtain ⟨N2, hN2⟩ : ∃ N, N = getN ((b.drop 8).take 4) := ⟨_, rfl⟩
  rw [← hN1] at HLT8 HH ⊢
  rw [← hN2] at HLT HH ⊢
  have HS : Kp (SD w2 w2 w.heap.size 36 [.slice KA 11 kc, .slice BA 256 bc] w.heap.size 36 [.slice KA 11 kc, .slice BA 256 bc]) := ⟨⟨Below.refl _ _, HK2.out, HK2.out, HK2.out.lt, HK2.out.lt⟩⟩
  clear hN1 hN2 hb1 hb2 HK1 HA1 HK2 h12 HL4 HL8
  go_wp2_with fail
  refine wp_region_held_drew (S := fun W => SD w2 W w.heap.size 36 [.slice KA 11 kc, .slice BA 256 bc] w.heap.size 36 [.slice KA 11 kc, .slice BA 256 bc]) (by kernel_rfl) (HS.out.drew) (fun hHeld => ?_)
  generalize w2.drew = wS at *
  refine wpAnyH_take (i := 0) (oi := ⟨some 18, _, _, _, _, _⟩) (v := _) rfl (by kernel_rfl) (by kernel_rfl) (by kernel_rfl) (fun _ _ _ h => h) (yieldsIf_load_mid (by rfl) 36 (.tmp 2) rfl w.heap.size 0 rfl [.slice KA 11 kc, .slice BA 256 bc] _ (fun W hW => hW.a.all) rwC.ty rwC.row rwC.size) (by assumption) ?_
  try simp only [Act.put, List.setIfInBounds_toArray, List.set_cons_zero, List.set_cons_succ]
  refine wpAnyH_take (i := 1) (oi := ⟨some 19, _, _, _, _, _⟩) (v := ?_) rfl (by kernel_rfl) (by kernel_rfl) (by kernel_rfl) (fun _ _ _ h => h) (Or.inl ⟨by rfl, by intro w hSw; go_simp; try rfl⟩) (by assumption) ?_
  try simp only [Act.put, List.setIfInBounds_toArray, List.set_cons_zero, List.set_cons_succ]
  refine wpAnyH_take (i := 2) (oi := ⟨some 20, _, _, _, _, _⟩) (v := ?_) rfl (by kernel_rfl) (by kernel_rfl) (by kernel_rfl) (fun _ _ _ h => h) (Or.inl ⟨by rfl, by intro w hSw; go_simp; try rfl⟩) (by assumption) ?_
  try simp only [Act.put, List.setIfInBounds_toArray, List.set_cons_zero, List.set_cons_succ]
  refine wpAnyH_take (i := 4) (oi := ⟨some 22, _, _, _, _, _⟩) (v := ?_) rfl (by kernel_rfl) (by kernel_rfl) (by kernel_rfl) (fun _ _ _ h => h) (Or.inl ⟨by rfl, by intro w hSw; go_simp; try rfl⟩) (by assumption) ?_
  try simp only [Act.put, List.setIfInBounds_toArray, List.set_cons_zero, List.set_cons_succ]
  refine wpAnyH_take (i := 5) (oi := ⟨some 23, _, _, _, _, _⟩) (v := _) rfl (by kernel_rfl) (by kernel_rfl) (by kernel_rfl) (fun _ _ _ h => h) (yieldsIf_cut_l (by rfl) el8 (.tmp 22) (.const (.int .i64 16)) rfl rfl rfl 16 rfl (by omega) (A' := some ⟨g, o + 16, none⟩) (n' := 256) (c' := c - 16) (by rw [if_neg (by omega)]; simp [Addr.add_lit]) rfl rfl) (by assumption) ?_
  try simp only [Act.put, List.setIfInBounds_toArray, List.set_cons_zero, List.set_cons_succ]
  refine wpAnyH_ready (rs := [3]) (by kernel_rfl) (by simp) ?_
  refine AllReadyH.cons (o := ⟨some 21, _, _, _, _, _⟩) rfl (fun K hK => ?_) AllReadyH.nil
  go_simp
  refine (refhead_any N1 N2 wS HLT8.out HLT.out).mono ?_
  rintro x w51 ⟨rfl, hb'⟩
  rw [HH.out]
  refine hK.out _ _ (hHeld.next hb') (fun hHeld2 => ?_)
  clear hb'
  clear hK K hHeld
  have hHeld := hHeld2
  clear hHeld2
  try simp only [Act.put, List.setIfInBounds_toArray, List.set_cons_zero, List.set_cons_succ]
  refine wpAnyH_ready (rs := [6]) (by kernel_rfl) (by simp) ?_
  refine AllReadyH.cons (o := ⟨some 24, _, _, _, _, _⟩) rfl (fun K hK => ?_) AllReadyH.nil
  have hBw := hB2.trans (hHeld.below.mono hB2.size)
  have HC9 : Kp _ := ⟨HC.out.next hBw⟩
  have HT9 : Kp _ := ⟨(HTl.out _ hBw).more hBw.size⟩
  go_simp
  refine (refxorL_any KA kc BA bc key (b.take 16) _ _ (b.drop 16) w51 HC9.out HLh.out HT9.out).mono ?_
  rintro x w52 ⟨A5, d5, rfl, hx5, hb'⟩
  have HX5 : Kp _ := ⟨hx5⟩
  refine hK.out _ _ (hHeld.next hb') (fun hHeld2 => ?_)
  clear hb' hx5 HC9 HT9 hBw
  clear hK K hHeld
  have hHeld := hHeld2
  clear hHeld2
  try simp only [Act.put, List.setIfInBounds_toArray, List.set_cons_zero, List.set_cons_succ]
  refine wpAnyH_take (i := 7) (oi := ⟨some 4, _, _, _, _, _⟩) (v := ?_) rfl (by kernel_rfl) (by kernel_rfl) (by kernel_rfl) (fun _ _ _ h => h) (Or.inl ⟨by rfl, by intro w hSw; go_simp; try rfl⟩) (by assumption) ?_
  try simp only [Act.put, List.setIfInBounds_toArray, List.set_cons_zero, List.set_cons_succ]
  refine wpAnyH_take (i := 8) (oi := ⟨some 5, _, _, _, _, _⟩) (v := ?_) rfl (by kernel_rfl) (by kernel_rfl) (by kernel_rfl) (fun _ _ _ h => h) (Or.inl ⟨by rfl, by intro w hSw; go_simp; try rfl⟩) (by assumption) ?_
  try simp only [Act.put, List.setIfInBounds_toArray, List.set_cons_zero, List.set_cons_succ]
  refine wpAnyH_done (by kernel_rfl) ?_ _
  have hB := hB2.trans (hHeld.below.mono hB2.size)
  clear hHeld
  go_wp2
  go_ret2
  exact ⟨A5, d5, rfl, HX5.out, hB⟩
end Go.Proofs.YtckmobpjdpjocaaDoor

namespace Go.Proofs.YtckmobpjdpjocaaDoor
open Go.RowKit

set_option maxHeartbeats 400000 in
theorem same_any (A B : Option Addr) (n c m d : Nat) (xs ys : List UInt8) (w : World) (L M : Nat) (ha : Bs w L A n c xs) (hb : Bs w M B m d ys) :
    Calls Tryd.prog 13 #[.slice A n c, .slice B m d] w fun e w' => e = .returned (.bool (xs == ys)) ∧ w = w' := by
  have e1 := ha.text Tryd.underlying26 Tryd.underlying5 Tryd.underlying9
  have e2 := hb.text Tryd.underlying26 Tryd.underlying5 Tryd.underlying9
  clear ha hb
  go_enter Tryd.func13, Tryd.ntmps13
  go_wp2
  go_ret
  exact ⟨rfl, rfl⟩

end Go.Proofs.YtckmobpjdpjocaaDoor

namespace Go.Proofs.YtckmobpjdpjocaaDoor
open Go.RowKit

set_option maxRecDepth 100000 in
set_option maxHeartbeats 4000000 in
theorem hides_small (key : List UInt8) (e s : Nat) (A : Option Addr) (n c : Nat) (b : List UInt8) (w : World) (hk : key.length = 16) (he : e < 18446744073709551616) (hs : s < 4294967296) (ha : Bs w w.heap.size A n c b) (hE : Ety w) (hsm : n ≤ 256) :
    Calls Tryd.prog 3 #[.agg (cells8 key).toArray, .int .u64 e, .int .u32 s, .slice A n c] w fun x w' => x = .returned (.bool true) ∧ Below w.heap.size w w' := by
  have HA : Kp _ := ⟨ha⟩
  have HE0 : Kp _ := ⟨hE⟩
  have HK : Kp _ := ⟨hk⟩
  have HKl : Kp ((cells8 key).length = 16) := ⟨by rw [cells8_length]; exact hk⟩
  have HEs : Kp (e < 18446744073709551616 ∧ s < 4294967296) := ⟨⟨he, hs⟩⟩
  have hn2 := ha.cap
  have hn3 := ha.le
  have hnI : (n : Int) ≤ 500 := by omega
  clear ha hE hk he hs
  go_enter Tryd.func3, Tryd.ntmps3
  go_wp2_with (with_reducible refine wpList_box (o := ⟨some 4, _, _, _, _, _⟩) rfl (.tmp 0) rfl rfl ?_)
  intro w1 hk1 hb1 hs1
  have HK1 : Kp _ := ⟨hk1⟩
  have HA1 : Kp _ := ⟨HA.out.next hb1 (Nat.le_refl _)⟩
  have HE : Kp _ := ⟨HE0.out.next hb1⟩
  clear hk1 hs1 HA
  go_wp2_with (with_reducible refine wpList_loadAll (o := ⟨some 18, _, _, _, _, _⟩) rwKey rfl (.tmp 4) rfl rfl HK1.out HKl.out ?_)
  refine (hide_any key e s A n c b w1 HK.out HEs.out.1 HEs.out.2 hsm HA1.out).mono ?_
  rintro x w2 ⟨A2, c2, rfl, hx2, hb2⟩
  replace HK1 : Kp _ := ⟨HK1.out.below hb2 HK1.out.lt⟩
  replace HA1 : Kp _ := ⟨HA1.out.next hb2 (Nat.le_refl _)⟩
  have HX : Kp _ := ⟨hx2⟩
  have hB := hb1.trans (hb2.mono hb1.size)
  clear hb1 hb2 hx2 HE HE0
  go_wp2_with (with_reducible refine wpList_loadAll (o := ⟨some 26, _, _, _, _, _⟩) rwKey rfl (.tmp 4) rfl rfl HK1.out HKl.out ?_)
  refine (refnew_any key w2 HK.out).mono ?_
  rintro x w3 ⟨KA, kc, BA, bc, rfl, hci, hb3⟩
  replace HA1 : Kp _ := ⟨HA1.out.next hb3 (Nat.le_refl _)⟩
  replace HX : Kp _ := ⟨HX.out.next hb3 (Nat.le_refl _)⟩
  have HC : Kp _ := ⟨hci⟩
  replace hB := hB.trans (hb3.mono hB.size)
  clear hb3 hci HK1
  go_wp2_with fail
  refine (refhide_any KA kc BA bc key e s A n c b w3 HC.out HEs.out.1 HEs.out.2 hsm HA1.out).mono ?_
  rintro x w4 ⟨A4, c4, rfl, hx4, hb4⟩
  replace HX : Kp _ := ⟨HX.out.next hb4 (Nat.le_refl _)⟩
  have HY : Kp _ := ⟨hx4⟩
  replace hB := hB.trans (hb4.mono hB.size)
  clear hb4 hx4 HC HA1
  obtain ⟨X, hX⟩ : ∃ X, X = hideL key e s b := ⟨_, rfl⟩
  rw [← hX] at HX HY
  clear hX
  go_wp2_with fail
  refine (same_any A2 A4 272 c2 272 c4 X X w4 _ _ HX.out HY.out).mono ?_
  rw [beq_self_eq_true]
  rintro x w5 ⟨rfl, rfl⟩
  clear HX HY
  go_wp2_with fail
  refine (head_any e s w4 HEs.out.1 HEs.out.2).mono ?_
  rintro x w6 ⟨rfl, hb6⟩
  replace hB := hB.trans (hb6.mono hB.size)
  clear hb6
  go_wp2_with fail
  refine (refhead_any e s w6 HEs.out.1 HEs.out.2).mono ?_
  rintro x w7 ⟨rfl, hb7⟩
  replace hB := hB.trans (hb7.mono hB.size)
  clear hb7
  have HHl : Kp ((headL e s).length = 16) := ⟨headL_length e s⟩
  obtain ⟨H, hH⟩ : ∃ X, X = headL e s := ⟨_, rfl⟩
  rw [← hH] at HHl ⊢
  clear hH
  have HHH : Kp ((H == H) = true) := ⟨by simp⟩
  go_wp2_with (refine wpList_eqlB (o := ⟨some 49, _, _, _, _, _⟩) eqN7 Tryd.eqGuardType39 (by rfl) (.tmp 45) (.tmp 48) rfl H H rfl rfl HHl.out HHl.out HHH.out ?_)
  refine (known_any w7).mono ?_
  rintro x w8 ⟨rfl, hb8⟩
  replace hB := hB.trans (hb8.mono hB.size)
  clear hb8
  go_wp2
  go_ret
  exact ⟨rfl, hB⟩
set_option maxRecDepth 100000 in
set_option maxHeartbeats 4000000 in
theorem hides_mid (key : List UInt8) (e s : Nat) (A : Option Addr) (n c : Nat) (b : List UInt8) (w : World) (hk : key.length = 16) (he : e < 18446744073709551616) (hs : s < 4294967296) (ha : Bs w w.heap.size A n c b) (hE : Ety w) (hbig : 256 < n) (hm : n ≤ 500) :
    Calls Tryd.prog 3 #[.agg (cells8 key).toArray, .int .u64 e, .int .u32 s, .slice A n c] w fun x w' => x = .returned (.bool true) ∧ Below w.heap.size w w' := by
  have HA : Kp _ := ⟨ha⟩
  have HE0 : Kp _ := ⟨hE⟩
  have HK : Kp _ := ⟨hk⟩
  have HKl : Kp ((cells8 key).length = 16) := ⟨by rw [cells8_length]; exact hk⟩
  have HEs : Kp (e < 18446744073709551616 ∧ s < 4294967296) := ⟨⟨he, hs⟩⟩
  have hn2 := ha.cap
  have hn3 := ha.le
  have hnI : (n : Int) ≤ 500 := by omega
  clear ha hE hk he hs
  go_enter Tryd.func3, Tryd.ntmps3
  go_wp2_with (with_reducible refine wpList_box (o := ⟨some 4, _, _, _, _, _⟩) rfl (.tmp 0) rfl rfl ?_)
  intro w1 hk1 hb1 hs1
  have HK1 : Kp _ := ⟨hk1⟩
  have HA1 : Kp _ := ⟨HA.out.next hb1 (Nat.le_refl _)⟩
  have HE : Kp _ := ⟨HE0.out.next hb1⟩
  clear hk1 hs1 HA
  go_wp2_with (with_reducible refine wpList_loadAll (o := ⟨some 18, _, _, _, _, _⟩) rwKey rfl (.tmp 4) rfl rfl HK1.out HKl.out ?_)
  refine (hide_bad key e s A n c b w1 hbig HA1.out HE.out).mono ?_
  rintro x w2 ⟨rfl, hb2⟩
  replace HK1 : Kp _ := ⟨HK1.out.below hb2 HK1.out.lt⟩
  replace HA1 : Kp _ := ⟨HA1.out.next hb2 (Nat.le_refl _)⟩
  have hB := hb1.trans (hb2.mono hb1.size)
  clear hb1 hb2 HE HE0
  go_wp2_with (with_reducible refine wpList_loadAll (o := ⟨some 26, _, _, _, _, _⟩) rwKey rfl (.tmp 4) rfl rfl HK1.out HKl.out ?_)
  refine (refnew_any key w2 HK.out).mono ?_
  rintro x w3 ⟨KA, kc, BA, bc, rfl, hci, hb3⟩
  replace HA1 : Kp _ := ⟨HA1.out.next hb3 (Nat.le_refl _)⟩
  have HC : Kp _ := ⟨hci⟩
  replace hB := hB.trans (hb3.mono hB.size)
  clear hb3 hci HK1
  go_wp2_with fail
  refine (refhide_bad _ _ e s A n c b w3 hbig HA1.out).mono ?_
  rintro x w4 ⟨rfl, hb4⟩
  replace hB := hB.trans (hb4.mono hB.size)
  clear hb4 HC HA1
  go_wp2_with fail
  refine (same_any none none 0 0 0 0 [] [] w4 0 0 (Bs.zero _ _) (Bs.zero _ _)).mono ?_
  rintro x w5 ⟨rfl, rfl⟩
  go_wp2_with fail
  refine (head_any e s w4 HEs.out.1 HEs.out.2).mono ?_
  rintro x w6 ⟨rfl, hb6⟩
  replace hB := hB.trans (hb6.mono hB.size)
  clear hb6
  go_wp2_with fail
  refine (refhead_any e s w6 HEs.out.1 HEs.out.2).mono ?_
  rintro x w7 ⟨rfl, hb7⟩
  replace hB := hB.trans (hb7.mono hB.size)
  clear hb7
  have HHl : Kp ((headL e s).length = 16) := ⟨headL_length e s⟩
  obtain ⟨H, hH⟩ : ∃ X, X = headL e s := ⟨_, rfl⟩
  rw [← hH] at HHl ⊢
  clear hH
  have HHH : Kp ((H == H) = true) := ⟨by simp⟩
  go_wp2_with (refine wpList_eqlB (o := ⟨some 49, _, _, _, _, _⟩) eqN7 Tryd.eqGuardType39 (by rfl) (.tmp 45) (.tmp 48) rfl H H rfl rfl HHl.out HHl.out HHH.out ?_)
  refine (known_any w7).mono ?_
  rintro x w8 ⟨rfl, hb8⟩
  replace hB := hB.trans (hb8.mono hB.size)
  clear hb8
  go_wp2
  go_ret
  exact ⟨rfl, hB⟩
set_option maxRecDepth 100000 in
set_option maxHeartbeats 4000000 in
theorem hides_big (key : List UInt8) (e s : Nat) (A : Option Addr) (n c : Nat) (b : List UInt8) (w : World) (hk : key.length = 16) (he : e < 18446744073709551616) (hs : s < 4294967296) (ha : Bs w w.heap.size A n c b) (hE : Ety w) (hm : 500 < n) :
    Calls Tryd.prog 3 #[.agg (cells8 key).toArray, .int .u64 e, .int .u32 s, .slice A n c] w fun x w' => x = .returned (.bool true) ∧ Below w.heap.size w w' := by
  have HA : Kp _ := ⟨ha⟩
  have HE0 : Kp _ := ⟨hE⟩
  have HK : Kp _ := ⟨hk⟩
  have HKl : Kp ((cells8 key).length = 16) := ⟨by rw [cells8_length]; exact hk⟩
  have HEs : Kp (e < 18446744073709551616 ∧ s < 4294967296) := ⟨⟨he, hs⟩⟩
  have hn2 := ha.cap
  have hn3 := ha.le
  have hnI : (500 : Int) < (n : Int) := by omega
  clear ha hE hk he hs
  go_enter Tryd.func3, Tryd.ntmps3
  go_wp2_with (with_reducible refine wpList_box (o := ⟨some 4, _, _, _, _, _⟩) rfl (.tmp 0) rfl rfl ?_)
  intro w1 hk1 hb1 hs1
  have HK1 : Kp _ := ⟨hk1⟩
  have HA1 : Kp _ := ⟨HA.out.next hb1 (Nat.le_refl _)⟩
  clear hk1 hs1 HA
  go_wp2_with fail
  refine (known_any w1).mono ?_
  rintro x w8 ⟨rfl, hb8⟩
  have hB := hb1.trans (hb8.mono hb1.size)
  clear hb8
  go_wp2
  go_ret
  exact ⟨rfl, hB⟩
theorem law_blockHides (key : List UInt8) (e s : Int) (A : Option Addr) (n c : Nat) (b : List UInt8) (w : World) (hk : key.length = 16) (he : (Lit.int .u64 e).wf = true) (hs : (Lit.int .u32 s).wf = true) (ha : Bs w w.heap.size A n c b ∧ c ≤ 140737488351232) (hE : Ety w) :
    Calls Tryd.prog 3 #[.agg (cells8 key).toArray, .int .u64 e, .int .u32 s, .slice A n c] w fun x w' => x = .returned (.bool true) ∧ Below w.heap.size w w' := by
  have he2 : 0 ≤ e ∧ e ≤ 18446744073709551615 := by simpa [Lit.wf, IntKind.min, IntKind.max, IntKind.signed, IntKind.bits] using he
  obtain ⟨eN, rfl⟩ := Int.eq_ofNat_of_zero_le he2.1
  have hs2 : 0 ≤ s ∧ s ≤ 4294967295 := by simpa [Lit.wf, IntKind.min, IntKind.max, IntKind.signed, IntKind.bits] using hs
  obtain ⟨sN, rfl⟩ := Int.eq_ofNat_of_zero_le hs2.1
  by_cases h1 : n ≤ 256
  · exact hides_small key eN sN A n c b w hk (by omega) (by omega) ha.1 hE h1
  · by_cases h2 : n ≤ 500
    · exact hides_mid key eN sN A n c b w hk (by omega) (by omega) ha.1 hE (by omega) h2
    · exact hides_big key eN sN A n c b w hk (by omega) (by omega) ha.1 hE (by omega)
end Go.Proofs.YtckmobpjdpjocaaDoor

namespace Go.Proofs.YtckmobpjdpjocaaDoor
open Go.ChangeShapes Go.WideShapes Go.ChangeAt Go.RowKit Go.Deep

theorem mapM_carry {β : Type} {f g : Nat → Option β} : ∀ (L : List Nat) (xs : List β), L.mapM f = some xs → (∀ i ∈ L, ∀ y, f i = some y → g i = some y) → L.mapM g = some xs
  | [], xs, h, _ => by simpa using h
  | i :: L, xs, h, hfg => by
    rw [List.mapM_cons] at h ⊢
    simp only [bind, Option.bind_eq_some_iff, pure, Option.some.injEq] at h ⊢
    obtain ⟨y, hy, ys, hys, rfl⟩ := h
    exact ⟨y, hfg i (by simp) y hy, ys, mapM_carry L ys hys (fun j hj => hfg j (by simp [hj])), rfl⟩
def byteAt : Option Value → UInt8
  | some (.int _ z) => UInt8.ofNat z.toNat
  | _ => 0
section
variable {H : Type} {enc : TypeId × Value → H} {P : Program} {w w' : World} {base base' : Nat} {sp sp' : Nat → Bool} {held held' : Bool} {t e : TypeId}
/-- an array of numbers reads alike in every world -/
theorem trod_arr_any {n : Nat} {k : IntKind} {cs : List Value} {x : DataW H × List MemPlace} {fuel : Nat} (ht : P.underlying t = some (.array n e)) (he : P.underlying e = some (.int k))
    (h : DataW.trod enc P w base sp held fuel t cs = some x) : DataW.trod enc P w' base' sp' held' fuel t cs = some x := by
  cases fuel with
  | zero => simp [DataW.trod] at h
  | succ m =>
    unfold DataW.trod at h ⊢
    rw [ht] at h ⊢
    split at h <;> simp_all
    obtain ⟨xs, hm, rfl⟩ := h.2
    refine ⟨xs, mapM_carry _ _ hm fun i _ y hy => ?_, rfl⟩
    obtain ⟨z, e1, e2, hw⟩ := DataW.trod_int he hy
    rw [e1, e2]
    cases m with
    | zero => simp [DataW.trod] at hy
    | succ m => exact trod_int_mk m he hw
theorem arr_places : ∀ (xs : List (DataW H × List MemPlace)), (∀ y ∈ xs, y.2 = []) → xs.flatMap (·.2) = []
  | [], _ => rfl
  | y :: ys, h => by
    rw [List.flatMap_cons, h y (by simp), arr_places ys (fun z hz => h z (by simp [hz]))]; rfl
/-- an array of bytes by value, opened -/
theorem arr_open {n : Nat} {r : Reach} {b0 : Nat} {v : Value} {d : DataW H} {ps : List MemPlace} (ht : P.underlying t = some (.array n e)) (he : P.underlying e = some (.int .u8)) (hc : P.cellsOf e = 1) (hct : P.cellsOf t = n)
    (hval : Value.okWide P w r b0 t v) (hd : DataW.Trod enc P w base sp held t v d ps) :
    ∃ l : List UInt8, l.length = n ∧ v = .agg (cells8 l).toArray ∧ ps = [] ∧ ∀ (w' : World) (base' : Nat) (sp' : Nat → Bool) (held' : Bool), DataW.Trod enc P w' base' sp' held' t v d [] := by
  obtain ⟨cs, rfl, hs, _⟩ : ∃ cs, v = .agg cs ∧ cs.size = P.cellsOf t ∧ Row.okWide P w r b0 t cs := by
    have h := hval
    unfold Value.okWide at h
    rw [ht] at h
    exact h
  rw [hct] at hs
  obtain ⟨fuel, hf⟩ := hd
  obtain ⟨xs, m, _, ex, hlen, hl, hel⟩ := DataW.trod_array ht hf
  obtain ⟨cl⟩ := cs
  have hs2 : cl.length = n := by simpa using hs
  have hcs : (Value.agg ⟨cl⟩).cells.toList = cl := by simp [Value.cells]
  rw [hcs] at hel hf
  have each : ∀ i (hi : i < n), ∃ z, cl[i]? = some (.int .u8 z) ∧ (Lit.int .u8 z).wf = true ∧ xs[i]? = some (.lit (.int .u8 z), []) := by
    intro i hi
    have h := hel i hi
    rw [hc, Nat.mul_one] at h
    have hxi : xs[i]? = some (xs[i]'(by omega)) := List.getElem?_eq_getElem (by omega)
    rw [hxi] at h
    obtain ⟨z, e1, e2, hw⟩ := DataW.trod_int he h
    refine ⟨z, ?_, hw, by rw [hxi, e2]⟩
    have e3 : ((cl.drop i).take 1)[0]? = some (.int .u8 z) := by rw [e1]; rfl
    rw [List.getElem?_take, if_pos (by omega), List.getElem?_drop] at e3
    exact e3
  have hps : ps = [] := by
    have h2 := (Prod.mk.inj ex).2
    rw [h2]
    refine arr_places xs fun y hy => ?_
    obtain ⟨i, hi, rfl⟩ := List.getElem_of_mem hy
    obtain ⟨z, _, _, h3⟩ := each i (by omega)
    rw [List.getElem?_eq_getElem hi] at h3
    rw [Option.some.inj h3]
  refine ⟨(List.range n).map fun i => byteAt cl[i]?, by simp, ?_, hps, fun w' base' sp' held' => ⟨fuel, ?_⟩⟩
  · congr 1
    refine congrArg _ (List.ext_getElem? fun i => ?_)
    by_cases hi : i < n
    · obtain ⟨z, e1, hw, _⟩ := each i hi
      unfold cells8
      rw [List.map_map, List.getElem?_map, List.getElem?_range hi, e1]
      simp only [Option.map_some, Function.comp, e1, byteAt, byte_back hw]
    · rw [List.getElem?_eq_none (by omega), List.getElem?_eq_none (by rw [cells8_length]; simp; omega)]
  · rw [hcs, ← hps]
    exact trod_arr_any ht he hf
end
end Go.Proofs.YtckmobpjdpjocaaDoor
