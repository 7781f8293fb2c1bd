/-  -/
import Derived.Test.YtcehkafddlfleaaGreatDoorG51
namespace Go.Proofs.YtcehkafddlfleaaGreatDoor
open Go.RowKit
section
variable {P : Program} {w : World} {ops : Array Oper} {rest : List Oper} {o : Oper} {a : Act} {Q : Exit → Act → World → Prop}
variable {S : World → Prop} {op : Oper} {t e : TypeId} {i : TypeInfo}
end
theorem pad_pad (l : List UInt8) (h : l.length ≤ 256) : pad256 (pad256 l) = pad256 l := by
 have h1 := pad256_length l h
 show pad256 l ++ List.replicate (256 - (pad256 l).length) 0 = _
 rw [h1, Nat.sub_self, List.replicate_zero, List.append_nil]
structure NowA (w W : World) (gN N : Nat) (c : Nat → List UInt8) : Prop where
 is : ∃ vs, Blk W gN 29 vs ∧ N ≤ vs.length ∧ ∀ i, i < N → ∃ A n ca l, vs[i]? = some (.slice A n ca) ∧ Bs w w.heap.size A n ca l ∧ n ≤ 256 ∧ pad256 (c i) = pad256 l
section
variable {w W W' : World} {gN N i : Nat} {c c' : Nat → List UInt8}
theorem NowA.keep {Ox : Nat → Prop} (h : NowA w W gN N c) (hk : Keep Ox W W') (hO : Ox gN) (hc : ∀ i, i < N → pad256 (c' i) = pad256 (c i)) : NowA w W' gN N c' := by
 obtain ⟨vs, h1, h2, h3⟩ := h.is
 refine ⟨⟨vs, hk.blk h1 hO, h2, fun i hi => ?_⟩⟩
 obtain ⟨A, n, ca, l, g1, g2, g3, g4⟩ := h3 i hi
 exact ⟨A, n, ca, l, g1, g2, g3, (hc i hi).trans g4⟩
theorem NowA.at_ (h : NowA w W gN N c) (hb : Below w.heap.size w W) (hi : i < N) : ∃ A n ca l, W.cell? ⟨gN, i, none⟩ = some (.slice A n ca) ∧ Bs W W.heap.size A n ca l ∧ n ≤ 256 ∧ pad256 (c i) = pad256 l := by
 obtain ⟨vs, h1, h2, h3⟩ := h.is
 obtain ⟨A, n, ca, l, g1, g2, g3, g4⟩ := h3 i hi
 exact ⟨A, n, ca, l, by rw [h1.cell? i]; exact g1, (g2.below hb).more hb.size, g3, g4⟩
theorem NowA.set {A : Option Addr} {n ca : Nat} {l : List UInt8} (h : NowA w W gN N c) (hi : i < N) (hB : Bs w w.heap.size A n ca l) (hn : n ≤ 256) : NowA w (W.setCell ⟨gN, i, none⟩ (.slice A n ca)) gN N (fun j => if j = i then l else c j) := by
 obtain ⟨vs, h1, h2, h3⟩ := h.is
 refine ⟨⟨vs.set i (.slice A n ca), h1.set i _, by rw [List.length_set]; exact h2, fun j hj => ?_⟩⟩
 by_cases e : j = i
 ·subst e
  exact ⟨A, n, ca, l, by rw [List.getElem?_set_self (by omega)], hB, hn, by rw [if_pos rfl]⟩
 ·obtain ⟨A', n', ca', l', g1, g2, g3, g4⟩ := h3 j hj
  exact ⟨A', n', ca', l', by rw [List.getElem?_set_ne (fun e2 => e e2.symm)]; exact g1, g2, g3, by rw [if_neg e]; exact g4⟩
theorem NowA.blk (h : NowA w W gN N c) : ∃ vs, Blk W gN 29 vs := by
 obtain ⟨vs, h1, _⟩ := h.is
 exact ⟨vs, h1⟩
end
theorem D3s.atB {w : World} {B : Nat} {A : Option Addr} {n c : Nat} {ds : List D3} (h : D3s w B A n c ds) {i : Nat} (hi : i < n) : ∃ b o A' n' c', A = some ⟨b, o, none⟩ ∧ b < B ∧ D3At w B b (o + i * 3) (ds[i]'(by have := h.len; omega)) A' n' c' := by
 obtain ⟨b, o, hA, hb, hc⟩ := h.cells (by omega)
 obtain ⟨A', n', c', h1⟩ := hc i (by have := h.len; omega)
 exact ⟨b, o, A', n', c', hA, hb, h1⟩
theorem D3At.range {w w' : World} {B b o : Nat} {d : D3} {A : Option Addr} {n c : Nat} (h : D3At w B b o d A n c) (hb : b < B) (hB : Below B w w') : w'.rangeAt b o [.int .i64 d.kind, .int .i64 d.pl, .slice A n c] := fun j v hv => by
 match j, hv with
 | 0, hv => obtain rfl := Option.some.inj hv; exact (hB.cell (p := ⟨b, o, none⟩) hb).trans h.kind
 | 1, hv => obtain rfl := Option.some.inj hv; exact (hB.cell (p := ⟨b, o + 1, none⟩) hb).trans h.pl
 | 2, hv => obtain rfl := Option.some.inj hv; exact (hB.cell (p := ⟨b, o + 2, none⟩) hb).trans h.sli
theorem do3_one (z p : Int) (A : Option Addr) (n c : Nat) : ∀ v ∈ [Value.int .i64 z, .int .i64 p, .slice A n c], v.oneCell' = true := by
 intro v hv
 simp only [List.mem_cons, List.not_mem_nil, or_false] at hv
 rcases hv with rfl | rfl | rfl <;> rfl
theorem tyDo9 : Ty Tryz.prog 35 [.int .i64 0, .int .i64 0, .slice none 0 0] := ⟨by kernel_rfl⟩
theorem rwDo9 : Rw Tryz.prog 35 (match (Tryz.prog).underlying 35 with | some d => d | none => .bool) 3 := ⟨by kernel_rfl, by kernel_rfl, by kernel_rfl⟩
structure RunK (w W : World) (b : Nat) (Ox : Nat → Prop) (m : List UInt8) (N j : Nat) (lim : Int) (g : Nat) (c : Nat → List UInt8) : Prop where
 is : ∃ kk t Om hs gm nm s rc rn q F, HonM w W kk t Om Ox hs g gm nm s (sumK m) (sealK m) rc rn q lim F N c ∧ s.b = b ∧ s.hk = hideK m ∧ kk ≤ 100 + 60 * j ∧ q ≤ j ∧ nm ≤ j ∧ rc.num ≤ 3 + 2 * j
section
variable {w W W' : World} {b : Nat} {Ox : Nat → Prop} {m : List UInt8} {N j : Nat} {lim : Int} {g gN g11 p : Nat} {c : Nat → List UInt8}
theorem RunK.less (h : RunK w W b (fun j => j = gN ∨ j = g11) m N j lim g c) : RunK w W b (fun j => j = gN) m N j lim g c := by
 obtain ⟨kk, t, Om, hs, gm, nm, s, rc, rn, q, F, hH, h1⟩ := h.is
 exact ⟨⟨kk, t, Om, hs, gm, nm, s, rc, rn, q, F, hH.lessO (fun j hj => .inl hj), h1⟩⟩
theorem RunK.next (h : RunK w W b Ox m N j lim g c) : RunK w W b Ox m N (j + 1) lim g c := by
 obtain ⟨kk, t, Om, hs, gm, nm, s, rc, rn, q, F, hH, h1, h2, h3, h4, h5, h6⟩ := h.is
 exact ⟨⟨kk, t, Om, hs, gm, nm, s, rc, rn, q, F, hH, h1, h2, by omega, by omega, by omega, by omega⟩⟩
theorem RunK.other (h : RunK w W b Ox m N j lim g c) (ho : Only p W W') (hp : Ox p) : RunK w W' b Ox m N j lim g c := by
 obtain ⟨kk, t, Om, hs, gm, nm, s, rc, rn, q, F, hH, h1⟩ := h.is
 exact ⟨⟨kk, t, Om, hs, gm, nm, s, rc, rn, q, F, hH.other ho hp, h1⟩⟩
end
set_option maxRecDepth 100000 in
set_option maxHeartbeats 20000000 in
theorem law_keeps9 (bl : Nat) (hbl : bl < 256) (A : Option Addr) (m c : Nat) (ds : List D3) (w : World) (hD : D3s w w.heap.size A m c ds) (hb : ∀ x ∈ ds, x.bs.length ≤ 140737488351232) :
  Calls Tryz.prog 3 #[.int .u8 (bl : Int), .slice A m c] w fun e w' => e = .returned (.bool true) ∧ Below w.heap.size w w' := by
 have HD : Kp _ := ⟨hD⟩
 have HB : Kp _ := ⟨hb⟩
 have hm63 := hD.le
 clear hD hb
 go_enter Tryz.func3, Tryz.ntmps3
 go_wp2_with fail
 refine (small9_any bl hbl none 0 0 A m c ds w _ HD.out (by omega) HB.out).mono ?_
 rintro e w0 ⟨v, rfl, rfl, hv⟩
 rcases hv.out with rfl | ⟨rfl, hm25, hbl20, _, hlong⟩
 ·clear hv
  go_wp2_with fail
  refine (known9_any w0).mono ?_
  rintro e w1 ⟨rfl, hb1⟩
  have HB1 : Kp _ := ⟨hb1⟩
  clear hb1
  go_wp2
  go_ret
  exact ⟨rfl, HB1.out⟩
 ·have HM : Kp (m ≤ 25 ∧ ∀ x ∈ ds, x.bs.length ≤ 3000) := ⟨hm25, fun x hx => by have := d3long_mem ds x hx; omega⟩
  clear hv hlong
  obtain ⟨r, hr⟩ : ∃ r : Nat, r = bl % 40 := ⟨_, rfl⟩
  have hr1 : Int.tmod (bl : Int) 40 = (r : Int) := by rw [Int.tmod_eq_emod_of_nonneg (by omega)]; omega
  rw [← hr] at hbl20
  obtain ⟨N, hN⟩ : ∃ N : Nat, N = r + 1 := ⟨_, rfl⟩
  have hN1 : 1 + (r : Int) = (N : Int) := by omega
  have HN : Kp (1 ≤ N ∧ N ≤ 21) := ⟨by omega⟩
  have hN9 : (N : Int) ≤ 21 := by omega
  have hN0 : ¬ (N : Int) = 0 := by omega
  clear hr hN hm25
  go_wp2_with fail
  refine (sw_new w0 N (by have := HN.out; omega)).mono ?_
  rintro e w1 ⟨b, rfl, h1⟩
  have H1 : Kp _ := ⟨h1⟩
  clear h1 hr1 hN1 hbl20
  go_wp2_with (with_reducible refine wpList_lit (o := ⟨some 35, _, _, _, _, _⟩) el8 Tryz.underlying5 rfl (.tmp 34) rfl [107] rfl 1 rfl (by decide) rfl ?_)
  intro w2 hB2 hb2
  have H2 : Kp _ := ⟨H1.out.grow hb2⟩
  have HB2 : Kp _ := ⟨hB2⟩
  clear hB2 hb2 H1
  generalize w1.heap.size = a2 at *
  go_wp2_with fail
  refine (mformat_new (m := [107]) H2.out (by have := HN.out; omega) (some ⟨a2, 0, none⟩) 1 1 HB2.out (by omega) (by have := HN.out; omega) (by have := HN.out; omega)).mono ?_
  rintro x w3 ⟨rfl, k3, h3⟩
  have H3 : Kp _ := ⟨h3⟩
  clear k3 h3 H2 HB2
  go_wp2_with (with_reducible refine wpList_lit (o := ⟨some 41, _, _, _, _, _⟩) el8 Tryz.underlying5 rfl (.tmp 40) rfl [107] rfl 1 rfl (by decide) rfl ?_)
  intro w4 hB4 hb4
  have H4 : Kp _ := ⟨H3.out.grow hb4⟩
  have HB4 : Kp _ := ⟨hB4⟩
  clear hB4 hb4 H3
  generalize w3.heap.size = a4 at *
  go_wp2_with fail
  refine (mount_new (m := [107]) H4.out (by have := HN.out; omega) (some ⟨a4, 0, none⟩) 1 1 HB4.out (by omega) (by have := HN.out; omega)).mono ?_
  rintro x w5 ⟨g, mp, s, hs5, t5, Om5, rc, rfl, e1, e2, hr3, hsub, k5, h5⟩
  have HR : Kp (RunK w0 w5 b (fun _ => False) [107] N 0 1048576 g (fun _ => [])) := ⟨⟨_, _, _, _, _, _, _, _, _, _, _, h5, e1, e2, by have := HN.out; omega, Nat.le_refl _, Nat.le_refl _, by omega⟩⟩
  clear e1 e2 hr3 hsub k5 h5 H4 HB4
  go_wp2_with (with_reducible refine wpList_mk (o := ⟨some 48, _, _, _, _, _⟩) elS rfl _ _ rfl w5.heap.size _ _ _ _ N rfl rfl rfl rfl (by have := HN.out; omega) (by have := HN.out; simp only [maxLen]; omega) (Nat.le_refl _) ?_)
  intro w6 hown hg6
  have hb6 : Below w5.heap.size w5 w6 := (Chg.of_grown (S := fun _ => False) hg6 (fun j e => by cases e)).below (fun _ h => h.elim) (Nat.le_refl _)
  obtain ⟨gN, hgN⟩ : ∃ z, z = w5.heap.size := ⟨_, rfl⟩
  have HN6 : Kp (NowA w0 w6 gN N (fun _ => [])) := ⟨by
   rcases hown.2 with ⟨h1, _⟩ | ⟨g9, cap, cur, h1, h2, h3, h4, h5, h6, h7⟩
   ·cases h1
   ·obtain rfl : gN = g9 := by rw [hgN]; injection h1 with h1 _ _; injection h1 with h1; injection h1
    have h8 : N ≤ cur.toList.length := by
     have h9 := congrArg List.length h7
     rw [List.length_take, List.length_replicate] at h9; omega
    refine ⟨⟨cur.toList, ⟨by rw [Array.toArray_toList]; exact h3⟩, h8, fun i hi => ⟨none, 0, 0, [], ?_, Bs.zero _ _, Nat.zero_le _, rfl⟩⟩⟩
    have h9 : (cur.toList.take (N * 1))[i]? = some (.slice none 0 0) := by rw [h7, List.getElem?_replicate, if_pos hi]
    rw [List.getElem?_take, if_pos (by omega)] at h9
    exact h9⟩
  have HR6 : Kp (RunK w0 w6 b (fun j => j = gN) [107] N 0 1048576 g (fun _ => [])) := ⟨by
   obtain ⟨kk, t, Om, hs, gm, nm, s, rc, rn, q, F, hH, h1⟩ := HR.out.is
   obtain ⟨vs, hb9⟩ := HN6.out.blk
   exact ⟨⟨kk, t, _, hs, gm, nm, s, rc, rn, q, F, (hH.guest (p := gN) hb6 ⟨by omega, hb9.lt⟩).lessO (fun j hj => .inr hj), h1⟩⟩⟩
  rw [← hgN]
  clear hown hg6 hb6 hgN HR
  go_wp2
  go_loopg [7, 10] m (fun gk v7 v10 wr => ∃ (i g : Nat) (cc : Nat → List UInt8), i + gk = m ∧ v7 = .pointer (some ⟨g, 0, none⟩) ∧ v10 = .int .i64 i ∧ Kp (RunK w0 wr b (fun j => j = gN) [107] N i 1048576 g cc) ∧ Kp (NowA w0 wr gN N cc))
  case atStart => exact ⟨0, g, _, by omega, rfl, rfl, HR6, HN6⟩
  case round =>
   clear HR6 HN6
   obtain ⟨i, g, cc, hi, rfl, rfl, HR, HW⟩ := hrel
   cases gk with
   | zero =>
    obtain rfl : i = m := by omega
    have hlt : ¬ ((i : Int) < (i : Int)) := by omega
    go_upto_region 36 with fail
    go_wp2
    go_loopg [19] N (fun gk v19 wr => ∃ (a : Nat) (cc : Nat → List UInt8), a + gk = N ∧ v19 = .int .i64 a ∧ Kp (RunK w0 wr b (fun j => j = gN) [107] N (i + a) 1048576 g cc) ∧ Kp (NowA w0 wr gN N cc))
    case atStart => exact ⟨0, cc, by omega, rfl, HR, HW⟩
    case round =>
     clear HR HW
     obtain ⟨a, cc, ha, rfl, HR, HW⟩ := hrel
     obtain ⟨kk, t, Om, hs, gm, nm, s, rc, rn, q, F, hH, hsb, hsk, hkk, hq, hnm, hrn⟩ := HR.out.is
     have HH : Kp _ := ⟨hH⟩
     have HP : Kp (s.b = b ∧ s.hk = hideK [107] ∧ kk ≤ 100 + 60 * (i + a) ∧ q ≤ i + a ∧ nm ≤ i + a ∧ rc.num ≤ 3 + 2 * (i + a)) := ⟨hsb, hsk, hkk, hq, hnm, hrn⟩
     clear hH hsb hsk hkk hq hnm hrn
     cases gk with
     | zero =>
      obtain rfl : a = N := by omega
      have hlt2 : ¬ ((a : Int) < (a : Int)) := by omega
      go_upto_region 42 with fail
      go_wp2_with fail
      refine (mSync_hon HH.out (by have h1 := HP.out; have h2 := HM.out.1; have h3 := HN.out; omega) (by have h1 := HP.out; have h2 := HM.out.1; have h3 := HN.out; omega) (by have h1 := HP.out; have h2 := HM.out.1; have h3 := HN.out; omega) (by have h1 := HP.out; have h2 := HM.out.1; have h3 := HN.out; omega)).mono ?_
      rintro x w11 ⟨rfl, t', Om', hs', gm', rc', hsub, k11, hr', h11⟩
      have HBw : Kp _ := ⟨h11.below⟩
      clear hsub k11 hr' h11 HH HP HW
      go_wp2_with fail
      refine (known9_any w11).mono ?_
      rintro x w12 ⟨rfl, hb12⟩
      have HB12 : Kp (Below w0.heap.size w0 w12) := ⟨HBw.out.trans (hb12.mono HBw.out.size)⟩
      clear hb12
      go_wp2
      go_ret
      exact ⟨rfl, HB12.out⟩
     | succ g3 =>
      have hlt2 : (a : Int) < (N : Int) := by omega
      have HAN : Kp (a < N) := ⟨by omega⟩
      go_wp2_with fail
      refine (mRead_hon (at' := a) HH.out (by have h1 := HP.out; have h2 := HM.out.1; have h3 := HN.out; omega) HAN.out (by have h1 := HP.out; have h2 := HM.out.1; have h3 := HN.out; omega) (by have h1 := HP.out; have h2 := HM.out.1; have h3 := HN.out; omega) (by have h1 := HP.out; have h2 := HM.out.1; have h3 := HN.out; omega) (by have h1 := HP.out; have h2 := HM.out.1; have h3 := HN.out; omega)).mono ?_
      rintro x w10 ⟨A10, c10, rfl, h10⟩
      obtain ⟨t10, Om10, hs10, nm10, rn10, F10, hsub10, hin10, hnm10, h10'⟩ := h10.is
      have HR10 : Kp (RunK w0 w10 b (fun j => j = gN) [107] N (i + (a + 1)) 1048576 g (fun y => if y = a then pad256 (cc a) else cc y)) := ⟨⟨_, _, _, _, _, _, _, _, _, _, _, h10', HP.out.1, HP.out.2.1, by have h1 := HP.out; omega, by have h1 := HP.out; omega, by have h1 := HP.out; omega, by have h1 := HP.out; omega⟩⟩
      have HW10 : Kp (NowA w0 w10 gN N (fun y => if y = a then pad256 (cc a) else cc y)) := ⟨HW.out.keep (Ox := fun j => j = gN) h10.keep rfl (fun y hy => by
       by_cases e : y = a
       ·rw [if_pos e, e, pad_pad _ (HH.out.cont.at_ a HAN.out).1]
       ·rw [if_neg e])⟩
      obtain ⟨An, nn, cn, ln, qn, hbn, hnn, hpn⟩ := HW10.out.at_ h10'.below HAN.out
      have hpn' : pad256 (cc a) = pad256 ln := by
       have h1 : pad256 (if a = a then pad256 (cc a) else cc a) = pad256 ln := hpn
       rw [if_pos rfl, pad_pad _ (HH.out.cont.at_ a HAN.out).1] at h1
       exact h1
      have HB10 : Kp (Bs w10 w10.heap.size A10 256 c10 (pad256 ln) ∧ Bs w10 w10.heap.size An nn cn ln ∧ nn ≤ 256) := ⟨by rw [← hpn']; exact h10'.held hin10, hbn, hnn⟩
      clear h10 hsub10 hin10 hnm10 h10' hbn hnn hpn hpn' HH HP HW
      go_wp2_with fail
      refine (is09_any A10 An c10 nn cn ln w10 HB10.out.1 HB10.out.2.1 HB10.out.2.2).mono ?_
      rintro x w11 ⟨rfl, rfl⟩
      clear qn HB10
      go_wp2
      go_roundg g3
      case measure => omega
      case rel => exact ⟨a + 1, _, by omega, by go_num, HR10, HW10⟩
   | succ gO =>
    have hlt : (i : Int) < (m : Int) := by omega
    obtain ⟨bb, oo, A', n', c9, rfl, hbb, hd⟩ := HD.out.atB (i := i) (by omega)
    have him : i < ds.length := by rw [HD.out.len]; omega
    obtain ⟨d, hd0⟩ : ∃ d, d = ds[i] := ⟨_, rfl⟩
    rw [← hd0] at hd
    have HBl : Kp (Below w0.heap.size w0 wr) := ⟨by
     obtain ⟨kk, t, Om, hs, gm, nm, s, rc, rn, q, F, hH, h1⟩ := HR.out.is
     exact hH.below⟩
    have HS : Kp _ := ⟨hd.range hbb HBl.out⟩
    have HBy : Kp (Bs w0 w0.heap.size A' n' c9 d.bs ∧ n' ≤ 3000) := ⟨hd.bytes, by rw [← hd.bytes.len, hd0]; exact HM.out.2 _ (List.getElem_mem him)⟩
    obtain ⟨z, hz⟩ : ∃ z, z = d.kind := ⟨_, rfl⟩
    obtain ⟨p, hp⟩ : ∃ p, p = d.pl := ⟨_, rfl⟩
    rw [← hz, ← hp] at HS
    clear hd hd0 him hz hp
    have q0 : wr.cell? ⟨bb, oo + i * 3, none⟩ = some (.int .i64 z) := HS.out 0 _ rfl
    have q1 : wr.cell? ⟨bb, oo + i * 3 + 1, none⟩ = some (.int .i64 p) := HS.out 1 _ rfl
    have q2 : wr.cell? ⟨bb, oo + i * 3 + 2, none⟩ = some (.slice A' n' c9) := HS.out 2 _ rfl
    go_wp2_with (with_reducible refine wpList_alloc (o := ⟨some 11, _, _, _, _, _⟩) tyDo9 rfl rfl ?_)
    intro w8 hk8 hb8 hs8
    have HK8 : Kp _ := ⟨hk8⟩
    have HX8 : Kp (RunK w0 w8 b (fun j => j = gN ∨ j = wr.heap.size) [107] N i 1048576 g cc ∧ NowA w0 w8 gN N cc) := ⟨by
     obtain ⟨kk, t, Om, hs, gm, nm, s, rc, rn, q, F, hH, h1⟩ := HR.out.is
     exact ⟨⟨⟨kk, t, _, hs, gm, nm, s, rc, rn, q, F, hH.guest (p := wr.heap.size) hb8 ⟨Nat.le_refl _, hk8.lt⟩, h1⟩⟩, HW.out.keep (Ox := fun j => j = gN) ((hH.mem.st.keepBelow hb8).less fun j hj => (hH.mem.oth j hj).1) rfl (fun _ _ => rfl)⟩⟩
    have HNe : Kp (gN ≠ wr.heap.size) := ⟨by
     obtain ⟨vs, hb9⟩ := HW.out.blk
     have := hb9.lt; omega⟩
    obtain ⟨g11, hg11⟩ : ∃ z, z = wr.heap.size := ⟨_, rfl⟩
    rw [← hg11] at HX8 HK8 HNe ⊢
    clear hk8 hb8 hs8 hg11 HR HW HS HBl q0 q1 q2
    go_wp2_with (with_reducible refine wpList_storeAll (o := ⟨none, _, _, _, _, _⟩) (vs := [.int .i64 z, .int .i64 p, .slice A' n' c9]) rwDo9 rfl (.tmp 11) (.tmp 58) rfl rfl HK8.out rfl rfl (do3_one _ _ _ _ _) rfl ?_)
    intro w9 hk9 ho9
    have HK9 : Kp _ := ⟨hk9⟩
    have HX9 : Kp (RunK w0 w9 b (fun j => j = gN ∨ j = g11) [107] N i 1048576 g cc ∧ NowA w0 w9 gN N cc) := ⟨by
     obtain ⟨⟨kk, t, Om, hs, gm, nm, s, rc, rn, q, F, hH, h1⟩⟩ := HX8.out.1
     exact ⟨⟨⟨kk, t, _, hs, gm, nm, s, rc, rn, q, F, hH.other ho9 (.inr rfl), h1⟩⟩, HX8.out.2.keep (Ox := fun j => j = gN) (Keep.only ho9 (fun e => HNe.out e.symm)) rfl (fun _ _ => rfl)⟩⟩
    have c0 : w9.cell? ⟨g11, 0, none⟩ = some (.int .i64 z) := HK9.out.cell? 0
    have c1 : w9.cell? ⟨g11, 1, none⟩ = some (.int .i64 p) := HK9.out.cell? 1
    have c2 : w9.cell? ⟨g11, 2, none⟩ = some (.slice A' n' c9) := HK9.out.cell? 2
    clear hk9 ho9 HX8 HK8
    obtain ⟨z1, hz1⟩ : ∃ z, z = Int.tmod p (N : Int) := ⟨_, rfl⟩
    have hz2 : z1 < (N : Int) := by rw [hz1]; exact Int.tmod_lt_of_pos _ (by have := HN.out; omega)
    obtain ⟨a, ha⟩ : ∃ a : Nat, a = z1.toNat := ⟨_, rfl⟩
    have HAN : Kp (a < N) := ⟨by have := HN.out; omega⟩
    have hmax : max (0 : Int) z1 = (a : Int) := by omega
    have hmod : Int.tmod p (N : Int) = z1 := hz1.symm
    clear hz1 ha hz2
    go_upto_region 17 with fail
    by_cases e1 : z = 1
    ·subst e1
     obtain ⟨kk, t, Om, hs, gm, nm, s, rc, rn, q, F, hH, hsb, hsk, hkk, hq, hnm, hrn⟩ := HX9.out.1.is
     have HH : Kp _ := ⟨hH⟩
     have HP : Kp (s.b = b ∧ s.hk = hideK [107] ∧ kk ≤ 100 + 60 * (i) ∧ q ≤ i ∧ nm ≤ i ∧ rc.num ≤ 3 + 2 * (i)) := ⟨hsb, hsk, hkk, hq, hnm, hrn⟩
     clear hH hsb hsk hkk hq hnm hrn
     go_wp2_with fail
     refine (mRead_hon (at' := a) HH.out (by have h1 := HP.out; have h2 := HM.out.1; have h3 := HN.out; omega) HAN.out (by have h1 := HP.out; have h2 := HM.out.1; have h3 := HN.out; omega) (by have h1 := HP.out; have h2 := HM.out.1; have h3 := HN.out; omega) (by have h1 := HP.out; have h2 := HM.out.1; have h3 := HN.out; omega) (by have h1 := HP.out; have h2 := HM.out.1; have h3 := HN.out; omega)).mono ?_
     rintro x w10 ⟨A10, c10, rfl, h10⟩
     obtain ⟨t10, Om10, hs10, nm10, rn10, F10, hsub10, hin10, hnm10, h10'⟩ := h10.is
     have HR10 : Kp (RunK w0 w10 b (fun j => j = gN ∨ j = g11) [107] N (i + 1) 1048576 g (fun y => if y = a then pad256 (cc a) else cc y)) := ⟨⟨_, _, _, _, _, _, _, _, _, _, _, h10', HP.out.1, HP.out.2.1, by have h1 := HP.out; omega, by have h1 := HP.out; omega, by have h1 := HP.out; omega, by have h1 := HP.out; omega⟩⟩
     have HW10 : Kp (NowA w0 w10 gN N (fun y => if y = a then pad256 (cc a) else cc y)) := ⟨HX9.out.2.keep (Ox := fun j => j = gN ∨ j = g11) h10.keep (.inl rfl) (fun y hy => by
      by_cases e : y = a
      ·rw [if_pos e, e, pad_pad _ (HH.out.cont.at_ a HAN.out).1]
      ·rw [if_neg e])⟩
     obtain ⟨An, nn, cn, ln, qn, hbn, hnn, hpn⟩ := HW10.out.at_ h10'.below HAN.out
     have hpn' : pad256 (cc a) = pad256 ln := by
      have h1 : pad256 (if a = a then pad256 (cc a) else cc a) = pad256 ln := hpn
      rw [if_pos rfl, pad_pad _ (HH.out.cont.at_ a HAN.out).1] at h1
      exact h1
     have HB10 : Kp (Bs w10 w10.heap.size A10 256 c10 (pad256 ln) ∧ Bs w10 w10.heap.size An nn cn ln ∧ nn ≤ 256) := ⟨by rw [← hpn']; exact h10'.held hin10, hbn, hnn⟩
     clear h10 hsub10 hin10 hnm10 h10' hbn hnn hpn hpn' HX9 HH HP c0 c1 c2 HK9 hmax hmod
     have hltN : (a : Int) < (N : Int) := by have := HAN.out; omega
     go_wp2_with fail
     refine (is09_any A10 An c10 nn cn ln w10 HB10.out.1 HB10.out.2.1 HB10.out.2.2).mono ?_
     rintro x w11 ⟨rfl, rfl⟩
     clear qn HB10
     go_wp2
     go_roundg gO
     case measure => omega
     case rel => exact ⟨i + 1, g, _, by omega, rfl, by go_num, ⟨HR10.out.less⟩, HW10⟩
    ·by_cases e2 : z = 2
     ·subst e2
      obtain ⟨kk, t, Om, hs, gm, nm, s, rc, rn, q, F, hH, hsb, hsk, hkk, hq, hnm, hrn⟩ := HX9.out.1.is
      have HH : Kp _ := ⟨hH⟩
      have HP : Kp (s.b = b ∧ s.hk = hideK [107] ∧ kk ≤ 100 + 60 * (i) ∧ q ≤ i ∧ nm ≤ i ∧ rc.num ≤ 3 + 2 * (i)) := ⟨hsb, hsk, hkk, hq, hnm, hrn⟩
      clear hH hsb hsk hkk hq hnm hrn
      obtain ⟨k', hk'⟩ : ∃ k', k' = min n' 256 := ⟨_, rfl⟩
      have hmin : min (n' : Int) 256 = (k' : Int) := by omega
      have hk2 : k' ≤ n' := by omega
      have hk3 : k' ≤ 256 := by omega
      have HC9 : Kp (Bs w9 w0.heap.size A' n' c9 d.bs) := ⟨HBy.out.1.below HH.out.below⟩
      clear hk'
      go_wp2_with (with_reducible refine wpList_cut_h (o := ⟨some 93, _, _, _, _, _⟩) el8 rfl _ _ rfl rfl HC9.out _ _ k' rfl rfl hk2 ?_)
      intro A12 hc12
      have HH12 : Kp _ := ⟨HH.out.hold (hc12.keep (fun p hp => (HH.out.below.cell hp).symm)) (by omega)⟩
      have HC12 : Kp (Bs w0 w0.heap.size A12 k' c9 (d.bs.take k') ∧ k' ≤ 256) := ⟨hc12.keep (fun p hp => (HH.out.below.cell hp).symm), hk3⟩
      clear hc12 HH HC9 hmin hk2
      go_wp2_with fail
      refine (mWrite_hon (at' := a) HH12.out (by have h1 := HP.out; have h2 := HM.out.1; have h3 := HN.out; omega) HAN.out (by have h1 := HP.out; have h2 := HM.out.1; have h3 := HN.out; omega) (by have h1 := HP.out; have h2 := HM.out.1; have h3 := HN.out; omega) (by have h1 := HP.out; have h2 := HM.out.1; have h3 := HN.out; omega) (by have h1 := HP.out; have h2 := HM.out.1; have h3 := HN.out; omega) A12 k' c9 (d.bs.take k') (by simp) hk3).mono ?_
      rintro x w10 ⟨rfl, A10, c10, h10⟩
      obtain ⟨t10, Om10, hs10, nm10, rn10, F10, hsub10, hin10, hnm10, h10'⟩ := h10.is
      have HR10 : Kp (RunK w0 w10 b (fun j => j = gN ∨ j = g11) [107] N (i + 1) 1048576 g (fun y => if y = a then d.bs.take k' else cc y)) := ⟨⟨_, _, _, _, _, _, _, _, _, _, _, h10', HP.out.1, HP.out.2.1, by have h1 := HP.out; omega, by have h1 := HP.out; omega, by have h1 := HP.out; omega, by have h1 := HP.out; omega⟩⟩
      have HW10 : Kp (NowA w0 w10 gN N cc) := ⟨HX9.out.2.keep (Ox := fun j => j = gN ∨ j = g11) h10.keep (.inl rfl) (fun _ _ => rfl)⟩
      obtain ⟨An, nn, cn, ln, qn, _, _, _⟩ := HW10.out.at_ h10'.below HAN.out
      obtain ⟨vs, hvs⟩ := HW10.out.blk
      have fn := hvs.frozen a
      clear h10 hsub10 hin10 hnm10 h10' HX9 HH12 HP c0 c1 c2 HK9 hmax hmod hvs
      have hltN : (a : Int) < (N : Int) := by have := HAN.out; omega
      go_wp2
      go_roundg gO
      case measure => omega
      case rel => exact ⟨i + 1, g, _, by omega, rfl, by go_num, ⟨(HR10.out.other (Only.setCell w10 ⟨gN, a, none⟩ _) (.inl rfl)).less⟩, ⟨HW10.out.set HAN.out HC12.out.1 HC12.out.2⟩⟩
     ·by_cases e3 : z = 3 ∨ z = 7
      ·obtain ⟨kk, t, Om, hs, gm, nm, s, rc, rn, q, F, hH, hsb, hsk, hkk, hq, hnm, hrn⟩ := HX9.out.1.is
       have HH : Kp _ := ⟨hH⟩
       have HP : Kp (s.b = b ∧ s.hk = hideK [107] ∧ kk ≤ 100 + 60 * (i) ∧ q ≤ i ∧ nm ≤ i ∧ rc.num ≤ 3 + 2 * (i)) := ⟨hsb, hsk, hkk, hq, hnm, hrn⟩
       clear hH hsb hsk hkk hq hnm hrn
       have hn9 : rc.num ≤ 1000 := (by have h1 := HP.out; have h2 := HM.out.1; have h3 := HN.out; omega)
       obtain ⟨n1, hn1⟩ : ∃ n1, n1 = rc.num + 1 := ⟨_, rfl⟩
       have hni : (rc.num : Int) + 1 = (n1 : Int) := by omega
       have HN1 : Kp (n1 = rc.num + 1) := ⟨hn1⟩
       clear hn1
       have h7 : z = 3 ∨ z ≠ 3 ∧ z = 7 := by omega
       rcases h7 with rfl | ⟨h73, rfl⟩
       ·have hnz : ∀ x : Nat, x = x := fun _ => rfl
        clear hnz
        go_wp2_with fail
        refine HH.out.number.mono ?_
        rintro x w10 ⟨rfl, rfl⟩
        go_wp2_with fail
        refine (mSync_hon HH.out (by have h1 := HP.out; have h2 := HM.out.1; have h3 := HN.out; omega) (by have h1 := HP.out; have h2 := HM.out.1; have h3 := HN.out; omega) (by have h1 := HP.out; have h2 := HM.out.1; have h3 := HN.out; omega) (by have h1 := HP.out; have h2 := HM.out.1; have h3 := HN.out; omega)).mono ?_
        rintro x w11 ⟨rfl, t', Om', hs', gm', rc', hsub, k11, hr', h11⟩
        have HH10 : Kp _ := ⟨h11⟩
        have HP10 : Kp (s.b = b ∧ s.hk = hideK [107] ∧ rc'.num = n1 ∧ kk ≤ 100 + 60 * i ∧ rc.num ≤ 3 + 2 * i ∧ n1 = rc.num + 1) := ⟨HP.out.1, HP.out.2.1, by rw [hr', HN1.out], HP.out.2.2.1, HP.out.2.2.2.2.2, HN1.out⟩
        have HW10 : Kp (NowA w0 w11 gN N cc) := ⟨HX9.out.2.keep (Ox := fun j => j = gN ∨ j = g11) k11 (.inl rfl) (fun _ _ => rfl)⟩
        have c0' : w11.cell? ⟨g11, 0, none⟩ = some (.int .i64 3) := (k11.blk HK9.out (.inr rfl)).cell? 0
        clear hsub k11 hr' h11 HX9 HH HP c0 c1 c2 HK9
        go_wp2_with fail
        refine HH10.out.number.mono ?_
        rintro x w12 ⟨rfl, rfl⟩
        rw [HP10.out.2.2.1]
        have HR10 : Kp (RunK w0 w12 b (fun j => j = gN ∨ j = g11) [107] N (i + 1) 1048576 g cc) := ⟨⟨_, _, _, _, _, _, _, _, _, _, _, HH10.out, HP10.out.1, HP10.out.2.1, by have h1 := HP10.out; have h2 := HN.out; omega, Nat.zero_le _, Nat.zero_le _, by have h1 := HP10.out; omega⟩⟩
        clear HH10 HP10
        go_wp2
        go_roundg gO
        case measure => omega
        case rel => exact ⟨i + 1, g, _, by omega, rfl, by go_num, ⟨HR10.out.less⟩, HW10⟩
       ·have hnz : ∀ x : Nat, x = x := fun _ => rfl
        clear hnz
        go_wp2_with fail
        refine HH.out.number.mono ?_
        rintro x w10 ⟨rfl, rfl⟩
        go_wp2_with fail
        refine (mSync_hon HH.out (by have h1 := HP.out; have h2 := HM.out.1; have h3 := HN.out; omega) (by have h1 := HP.out; have h2 := HM.out.1; have h3 := HN.out; omega) (by have h1 := HP.out; have h2 := HM.out.1; have h3 := HN.out; omega) (by have h1 := HP.out; have h2 := HM.out.1; have h3 := HN.out; omega)).mono ?_
        rintro x w11 ⟨rfl, t', Om', hs', gm', rc', hsub, k11, hr', h11⟩
        have HH10 : Kp _ := ⟨h11⟩
        have HP10 : Kp (s.b = b ∧ s.hk = hideK [107] ∧ rc'.num = n1 ∧ kk ≤ 100 + 60 * i ∧ rc.num ≤ 3 + 2 * i ∧ n1 = rc.num + 1) := ⟨HP.out.1, HP.out.2.1, by rw [hr', HN1.out], HP.out.2.2.1, HP.out.2.2.2.2.2, HN1.out⟩
        have HW10 : Kp (NowA w0 w11 gN N cc) := ⟨HX9.out.2.keep (Ox := fun j => j = gN ∨ j = g11) k11 (.inl rfl) (fun _ _ => rfl)⟩
        have c0' : w11.cell? ⟨g11, 0, none⟩ = some (.int .i64 7) := (k11.blk HK9.out (.inr rfl)).cell? 0
        clear hsub k11 hr' h11 HX9 HH HP c0 c1 c2 HK9
        go_wp2_with fail
        refine HH10.out.number.mono ?_
        rintro x w12 ⟨rfl, rfl⟩
        rw [HP10.out.2.2.1]
        go_wp2_with (with_reducible refine wpList_lit (o := ⟨some 124, _, _, _, _, _⟩) el8 Tryz.underlying5 rfl (.tmp 123) rfl [107] rfl 1 rfl (by decide) rfl ?_)
        intro w13 hB13 hb13
        have HH13 : Kp _ := ⟨HH10.out.grow hb13⟩
        have HB13 : Kp _ := ⟨hB13⟩
        have HW13 : Kp (NowA w0 w13 gN N cc) := ⟨HW10.out.keep (Ox := fun j => j = gN) ((HH10.out.mem.st.keepBelow hb13).less fun j hj => (HH10.out.mem.oth j (.inl hj)).1) rfl (fun _ _ => rfl)⟩
        clear hB13 hb13 HH10 HW10
        generalize w12.heap.size = a13 at *
        go_wp2_with fail
        have hmt := mount_again (m := [107]) HH13.out HP10.out.2.1 (by have h1 := HP10.out; have h2 := HM.out.1; have h3 := HN.out; omega) (some ⟨a13, 0, none⟩) 1 1 HB13.out (by omega) (by have h1 := HP10.out; have h2 := HM.out.1; have h3 := HN.out; omega)
        rw [HP10.out.1] at hmt
        refine hmt.mono ?_
        rintro x w14 ⟨g', mp, s', hs', t', Om', rc', rfl, e4, e5, e6, hsub, k14, h14⟩
        have HR14 : Kp (RunK w0 w14 b (fun j => j = gN ∨ j = g11) [107] N (i + 1) 1048576 g' cc) := ⟨⟨_, _, _, _, _, _, _, _, _, _, _, h14, e4, e5, by have h1 := HP10.out; omega, Nat.zero_le _, Nat.zero_le _, by have h1 := HP10.out; omega⟩⟩
        have HW14 : Kp (NowA w0 w14 gN N cc) := ⟨HW13.out.keep (Ox := fun j => j = gN ∨ j = g11) k14 (.inl rfl) (fun _ _ => rfl)⟩
        clear hmt e4 e5 e6 hsub k14 h14 HH13 HB13 HW13
        go_wp2
        go_roundg gO
        case measure => omega
        case rel => exact ⟨i + 1, g', _, by omega, rfl, by go_num, ⟨HR14.out.less⟩, HW14⟩
      ·have e4 : z ≠ 3 := fun e => e3 (.inl e)
       have e5 : z ≠ 7 := fun e => e3 (.inr e)
       clear e3
       go_wp2
       go_roundg gO
       case measure => omega
       case rel => exact ⟨i + 1, g, _, by omega, rfl, by go_num, ⟨HX9.out.1.less.next⟩, ⟨HX9.out.2⟩⟩
end Go.Proofs.YtcehkafddlfleaaGreatDoor
