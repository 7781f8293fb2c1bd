/- The contract of sacristanref04's New. -/
import Derived.Test.YtckmobpjdpjocaaDoorG05
import Derived.Test.YtckmobpjdpjocaaDoorG06
import Derived.Test.YtckmobpjdpjocaaDoorG02
namespace Go.Proofs.YtckmobpjdpjocaaDoor
open Go.RowKit

/-- the first bytes of a key, spread -/
def kbl (bx key : List UInt8) (n : Nat) : List UInt8 := (List.range n).map (kby bx key)
theorem kbl_succ (bx key : List UInt8) (n : Nat) : kbl bx key (n + 1) = kbl bx key n ++ [kby bx key n] := by simp [kbl, List.range_succ]
theorem kbl_length (bx key : List UInt8) (n : Nat) : (kbl bx key n).length = n := by simp [kbl]
theorem kbl_at (bx key : List UInt8) (n i : Nat) (h : i < n) : (cellsI (kbl bx key n))[i]? = some (.int .i64 ((kby bx key i).toNat : Int)) := by
  simp [cellsI, kbl, List.getElem?_map, List.getElem?_range h]
def zeroC : List Value := [.slice none 0 0, .slice none 0 0]
theorem tyC : Ty Tryd.prog 36 zeroC := ⟨by kernel_rfl⟩
noncomputable def descC : TypeDesc := (Tryd.prog.underlying 36).getD (.array 0 0)
theorem rwC : Rw Tryd.prog 36 descC 2 := ⟨by kernel_rfl, by kernel_rfl, by kernel_rfl⟩
theorem c_built (A : Option Addr) (n c : Nat) : Tryd.prog.built 36 [(1, .slice A n c)] = some [.slice none 0 0, .slice A n c].toArray := by kernel_rfl
theorem one2 (A B : Option Addr) (n c m d : Nat) : ∀ v ∈ [Value.slice A n c, Value.slice B m d], v.oneCell' = true := by intro v hv; simp at hv; rcases hv with rfl | rfl <;> rfl
theorem elII : El Tryd.prog 33 34 (.slice none 0 0) 24 := ⟨Tryd.underlying33, by kernel_rfl, rfl⟩
/-- the rounds' keys, as they are cut -/
def keyV (gl cl r : Nat) : List Value := (List.range r).map fun q => .slice (some ⟨gl, 16 * q, none⟩) 16 (cl - 16 * q)
theorem keyV_succ (gl cl r : Nat) : keyV gl cl (r + 1) = keyV gl cl r ++ [.slice (some ⟨gl, 16 * r, none⟩) 16 (cl - 16 * r)] := by simp [keyV, List.range_succ]
theorem keyV_at (gl cl n r : Nat) (h : r < n) : (keyV gl cl n)[r]? = some (.slice (some ⟨gl, 16 * r, none⟩) 16 (cl - 16 * r)) := by
  simp [keyV, List.getElem?_map, List.getElem?_range h]
theorem kch_get (bx key : List UInt8) (q j : Nat) (h : j < (kch bx key q).length) : (kch bx key q)[j] = kby bx key (16 * q + j) := by
  rw [List.getElem_of_eq (kch_kby bx key q) h, List.getElem_map, List.getElem_range]
theorem Is.keep1 {w w' : World} {B b o n c : Nat} {l : List UInt8} (h : Is w B (some ⟨b, o, none⟩) n c l) (hk : ∀ j, w'.cell? ⟨b, j, none⟩ = w.cell? ⟨b, j, none⟩) : Is w' B (some ⟨b, o, none⟩) n c l :=
  ⟨h.len, h.cap, h.max, h.nil, fun h0 => by
    obtain ⟨b', o', hA, hb, hc⟩ := h.cells h0
    cases hA
    exact ⟨b, o, rfl, hb, fun j hj => (hk _).trans (hc j hj)⟩⟩
theorem cis_done {w : World} {gk gl cl kc : Nat} {BA : Option Addr} {bc : Nat} {bx key : List UInt8} (hr : ∀ q, q < 11 → w.cell? ⟨gk, q, none⟩ = some (.slice (some ⟨gl, 16 * q, none⟩) 16 (cl - 16 * q))) (hb : ∀ i, i < 176 → w.cell? ⟨gl, i, none⟩ = some (.int .i64 ((kby bx key i).toNat : Int)))
    (hx : Is w w.heap.size BA 256 bc bx) (hgk : gk < w.heap.size) (hgl : gl < w.heap.size) (hc : 176 ≤ cl) (hm : cl ≤ maxLen) : CIs w w.heap.size (some ⟨gk, 0, none⟩) kc (keysL bx key) BA bc bx := by
  refine ⟨⟨gk, 0, rfl, hgk, fun q hq => ⟨some ⟨gl, 16 * q, none⟩, cl - 16 * q, by rw [Nat.zero_add]; exact hr q hq, ?_⟩⟩, hx⟩
  rw [keysL_at bx key q hq]
  refine ⟨kch_length _ _ _, by omega, by omega, (fun h => by cases h), fun _ => ⟨gl, 16 * q, rfl, hgl, fun j hj => ?_⟩⟩
  have hj16 : j < 16 := by rw [kch_length] at hj; exact hj
  rw [hb (16 * q + j) (by omega)]
  rw [kch_get bx key q j hj]
theorem own_setCell {w : World} {base g : Nat} {e : TypeId} {v : Value} {n : Nat} {xs : List Value} (h : w.ownsRow base e 1 v n xs) (hg : g < base) (u : Value) : (w.setCell ⟨g, 0, none⟩ u).ownsRow base e 1 v n xs := by
  refine ⟨h.1, ?_⟩
  rcases h.2 with ⟨rfl, rfl⟩ | ⟨g', cap, cur, rfl, hg', hh, hn, hm, hs, ht⟩
  · exact .inl ⟨rfl, rfl⟩
  · exact .inr ⟨g', cap, cur, rfl, hg', ((Only.setCell w ⟨g, 0, none⟩ u).block g' (by show g' ≠ g; omega)).trans hh, hn, hm, hs, ht⟩
/-- what two cells hold -/
structure Two (W : World) (p q : Addr) (x y : Value) : Prop where
  a : W.cell? p = some x
  b : W.cell? q = some y
set_option maxRecDepth 100000 in
set_option maxHeartbeats 8000000 in
theorem refnew_any (key : List UInt8) (w : World) (hk : key.length = 16) :
    Calls Tryd.prog 12 #[.agg (cells8 key).toArray] w fun e w' => ∃ KA kc BA bc, e = .returned (.agg #[.slice KA 11 kc, .slice BA 256 bc]) ∧ CIs w' w'.heap.size KA kc (keysL boxB key) BA bc boxB ∧ Below w.heap.size w w' := by
  have HKl : Kp (key.length = 16) := ⟨hk⟩
  clear hk
  go_enter Tryd.func12, Tryd.ntmps12
  go_wp2_with (with_reducible refine wpList_box (o := ⟨some 1, _, _, _, _, _⟩) rfl (.tmp 0) rfl rfl ?_)
  intro w1 hk1 hb1 hs1
  have HK1 : Kp _ := ⟨hk1⟩
  clear hk1 hs1
  go_wp2_with (with_reducible refine wpList_alloc (o := ⟨some 2, _, _, _, _, _⟩) tyC rfl rfl ?_)
  intro w2 hk2 hb2 hs2
  have HR2 : Kp _ := ⟨hk2⟩
  have HK2 : Kp _ := ⟨HK1.out.below hb2 HK1.out.lt⟩
  have hB2 : Below w.heap.size w w2 := hb1.trans (hb2.mono hb1.size)
  have n1 : w.heap.size < w1.heap.size := HK1.out.lt
  obtain ⟨g1, hg1⟩ : ∃ g, g = w1.heap.size := ⟨_, rfl⟩
  rw [← hg1] at HR2 n1 ⊢
  clear hk2 hs2 hb1 hb2 HK1 hg1
  go_wp2_with fail
  refine (refbox_any w2).mono ?_
  rintro e w3 ⟨v3, rfl, hown, hb3⟩
  obtain ⟨gb0, cb0, eb0, _, hgb0, _⟩ := own_some hown (by decide)
  obtain ⟨AB, cB, rfl, hbx⟩ := Is.of_own hown
  rw [boxB_eq] at hbx
  have HX3 : Kp _ := ⟨hbx⟩
  have HK3 : Kp _ := ⟨HK2.out.below hb3 HK2.out.lt⟩
  have HR3 : Kp _ := ⟨HR2.out.below hb3 HR2.out.lt⟩
  have hB3 := hB2.trans (hb3.mono hB2.size)
  obtain ⟨bb, ob, eAB, hbb, hbc⟩ := hbx.cells (by decide)
  subst eAB
  have HBG : Kp (g1 < bb) := ⟨by
    injection eb0 with e1 _ _
    have e2 := Option.some.inj e1
    injection e2 with e3 _ _
    have := HR2.out.lt
    omega⟩
  clear eb0 hgb0
  have HBX3 : Kp (∀ x : UInt8, w3.cell? ⟨bb, ob + x.toNat, none⟩ = some (.int .i64 ((boxB.getD x.toNat 0).toNat : Int))) := ⟨fun x => by
    have hx : x.toNat < boxB.length := by rw [boxB_length]; exact x.toNat_lt
    rw [hbc x.toNat hx]
    simp [List.getD, List.getElem?_eq_getElem hx]⟩
  clear hown hbx hb3 HK2 HR2 hB2 hbc
  go_wp2_with (first
    | (refine wpList_build1 (o := ⟨some 12, _, _, _, _, _⟩) rfl 1 (.tmp 11) rfl rfl (c_built (some ⟨bb, ob, none⟩) 256 cB) ?_)
    | (with_reducible refine wpList_alloc (o := ⟨some 3, _, _, _, _, _⟩) tyC rfl rfl ?_))
  intro w4 hk4 hb4 hs4
  have HC4 : Kp _ := ⟨hk4⟩
  have HK4 : Kp _ := ⟨HK3.out.below hb4 HK3.out.lt⟩
  have HR4 : Kp _ := ⟨HR3.out.below hb4 HR3.out.lt⟩
  have HX4 : Kp _ := ⟨HX3.out.below hb4⟩
  have hB4 := hB3.trans (hb4.mono hB3.size)
  have n2 : g1 < w3.heap.size := HR3.out.lt
  have HZ : Kp (zeroC.length = 2) := ⟨rfl⟩
  have hbb3 := hbb
  obtain ⟨g2, hg2⟩ : ∃ g, g = w3.heap.size := ⟨_, rfl⟩
  rw [← hg2] at HC4 HX4 n2 hbb3 ⊢
  clear hk4 hs4 HK3 HR3 HX3 hB3 hg2
  go_wp2_with (refine wpList_storeAll (o := ⟨none, _, _, _, _, _⟩) (vs := [.slice none 0 0, .slice (some ⟨bb, ob, none⟩) 256 cB]) rwC rfl (.tmp 3) (.tmp 12) rfl rfl HC4.out HZ.out rfl (one2 _ _ _ _ _ _) rfl ?_)
  intro w5 hk5 ho5
  have HC5 : Kp _ := ⟨hk5⟩
  have HK5 : Kp _ := ⟨HK4.out.only ho5 (by omega)⟩
  have HR5 : Kp _ := ⟨HR4.out.only ho5 (by omega)⟩
  have HX5 : Kp _ := ⟨HX4.out.below (ho5.below (Nat.le_refl _))⟩
  have hB5 := hB4.trans (ho5.below (by omega))
  have HBX5 : Kp (∀ x : UInt8, w5.cell? ⟨bb, ob + x.toNat, none⟩ = some (.int .i64 ((boxB.getD x.toNat 0).toNat : Int))) := ⟨fun x => by
    rw [(ho5.below (Nat.le_refl _)).cell (p := ⟨bb, ob + x.toNat, none⟩) hbb3, hb4.cell (p := ⟨bb, ob + x.toNat, none⟩) hbb]
    exact HBX3.out x⟩
  have n3 : g2 < w5.heap.size := HC5.out.lt
  obtain ⟨b0, hb0⟩ : ∃ b, b = w5.heap.size := ⟨_, rfl⟩
  rw [← hb0] at n3
  have hle0 : b0 ≤ w5.heap.size := by rw [hb0]; exact Nat.le_refl _
  clear hk5 ho5 HC4 HK4 HR4 HX4 hB4 hb0 hb4 HBX3 hbb
  go_wp2
  go_loopg [4, 5] 16 (fun gk v4 v5 wr => ∃ j : Nat, j + gk = 16 ∧ v5 = .int .i64 j ∧ Hid (wr.ownsRow b0 3 1 v4 j (cellsI (kbl boxB key j))) ∧ Below b0 w5 wr)
  case atStart => exact ⟨0, by omega, rfl, own_nil _ _ _, Below.refl _ _⟩
  case round =>
    obtain ⟨j, hj, rfl, H, hB⟩ := hrel
    obtain ⟨A4, c4, rfl, hc4⟩ := own_form H.out
    cases gk with
    | zero =>
      obtain rfl : j = 16 := by omega
      clear hj
      have HK16 : Hid (wr.ownsRow b0 3 1 (.slice A4 16 c4) 16 (cellsI (kbl boxB key 16))) := H
      go_wp2
      go_loopg [4, 6, 7] 40 (fun gk v4 v6 v7 wx => ∃ m I : Nat, m + gk = 40 ∧ Kp (I = 16 + 4 * m) ∧ v7 = .int .i64 I ∧ v6 = .int .i64 (rcon ((m + 3) / 4)).toNat ∧ Hid (wx.ownsRow b0 3 1 v4 I (cellsI (kbl boxB key I))) ∧ Below b0 w5 wx)
      case atStart => exact ⟨0, 16, by omega, ⟨rfl⟩, rfl, rfl, HK16, hB⟩
      case round =>
        clear H HK16 hB
        obtain ⟨m, I, hm, hI, rfl, rfl, H, hB⟩ := hrel
        cases gk with
        | zero =>
          have hI176 : I = 176 := by have := hI.out; omega
          have hIge : 176 ≤ I := by omega
          have hIr : ¬ ((I : Int) < 176) := by omega
          clear hI176
          obtain ⟨gl, cl, rfl, hcl, hbl, hll⟩ := own_some H.out (by omega)
          have hcm : cl ≤ maxLen := by
            obtain ⟨A', c', e', _, hm', _⟩ := own_form H.out
            injection e' with _ _ e3
            rw [e3]; exact hm'
          have HCe : Kp (∀ i, i < 176 → wr.cell? ⟨gl, i, none⟩ = some (.int .i64 ((kby boxB key i).toNat : Int))) := ⟨fun i hi => by
            have h := H.out.cells (g := gl) rfl i _ (kbl_at boxB key I i (by omega))
            rwa [Addr.add_lit, Nat.zero_add] at h⟩
          obtain ⟨w6, hw6⟩ : ∃ x, x = wr := ⟨wr, rfl⟩
          obtain ⟨b1, hb1⟩ : ∃ x, x = wr.heap.size := ⟨_, rfl⟩
          have hb01 : b0 ≤ b1 := by rw [hb1]; exact Nat.le_trans hle0 hB.size
          have HC6 : Kp (Blk wr g2 36 [.slice none 0 0, .slice (some ⟨bb, ob, none⟩) 256 cB]) := ⟨HC5.out.below hB n3⟩
          have HR6 : Kp (Blk w6 g1 36 zeroC) := ⟨by rw [hw6]; exact HR5.out.below hB (by omega)⟩
          have HX6 : Kp (Is w6 g2 (some ⟨bb, ob, none⟩) 256 cB boxB) := ⟨by rw [hw6]; exact HX5.out.below (hB.mono (Nat.le_of_lt n3))⟩
          have HCe6 : Kp (∀ i, i < 176 → w6.cell? ⟨gl, i, none⟩ = some (.int .i64 ((kby boxB key i).toNat : Int))) := ⟨by rw [hw6]; exact HCe.out⟩
          have hBw : Below w.heap.size w wr := hB5.trans (hB.mono (by omega))
          have hgl1 : gl < b1 := by rw [hb1]; exact hll
          have HE0 : Kp (∀ k, k < b1 → k ≠ g2 → wr.heap[k]? = w6.heap[k]?) := ⟨fun k _ _ => by rw [hw6]⟩
          have hbs : b1 ≤ wr.heap.size := by rw [hb1]; exact Nat.le_refl _
          have hgn : gl ≠ g2 := by omega
          have HG : Kp (gl < b1 ∧ gl ≠ g2 ∧ bb < g2 ∧ g2 < b1 ∧ g1 < g2 ∧ w.heap.size < g1) := ⟨⟨hgl1, hgn, hbb3, by omega, n2, n1⟩⟩
          have HCL : Kp (176 ≤ cl ∧ cl ≤ maxLen) := ⟨⟨by omega, hcm⟩⟩
          have HGb : Kp (gl ≠ g1) := ⟨by omega⟩
          have HGa : Kp (g1 < g2) := ⟨n2⟩
          clear hw6 hb1 HCe H hI hcm hll hgl1 hgn hbl
          go_wp2
          go_loopg [10] 11 (fun gk v10 wx => ∃ r J : Nat, r + gk = 11 ∧ Kp (J = 16 * r) ∧ v10 = .int .i64 J ∧ ∃ Ar cr, Kp (Blk wx g2 36 [.slice Ar r cr, .slice (some ⟨bb, ob, none⟩) 256 cB]) ∧ Hid (wx.ownsRow b1 34 1 (.slice Ar r cr) r (keyV gl cl r)) ∧ Kp (∀ k, k < b1 → k ≠ g2 → wx.heap[k]? = w6.heap[k]?) ∧ b1 ≤ wx.heap.size ∧ Below w.heap.size w wx)
          case atStart => exact ⟨0, 0, by omega, ⟨rfl⟩, rfl, none, 0, HC6, own_nil _ _ _, HE0, hbs, hBw⟩
          case round =>
            clear HC6 HE0 hbs hBw
            obtain ⟨r, J, hr, hJ, rfl, Ar, cr, HC, H, HE, hbs, hBw⟩ := hrel
            cases gk with
            | zero =>
              have hr11 : r = 11 := by omega
              have hr0 : 0 < r := by omega
              have hJ176 : J = 176 := by have := hJ.out; omega
              have hJI : ¬ ((J : Int) < 176) := by omega
              obtain ⟨gk1, ck1, e1, hck, hbk, hlk⟩ := own_some H.out hr0
              injection e1 with e1 _ e3
              subst e1 e3
              have hGG := HG.out
              have HRr : Kp (Blk wr g1 36 zeroC) := ⟨⟨(HE.out g1 (by omega) (by omega)).trans HR6.out.heap⟩⟩
              have HLc : Kp (([Value.slice (some ⟨gk1, 0, none⟩) r cr, .slice (some ⟨bb, ob, none⟩) 256 cB] : List Value).length = 2) := ⟨rfl⟩
              have HR11 : Kp (r = 11) := ⟨hr11⟩
              clear hJ176 hJ hr hr11
              go_wp2_with (first
                | (with_reducible refine wpList_loadAll (o := ⟨some 118, _, _, _, _, _⟩) rwC rfl (.tmp 3) rfl rfl HC.out HLc.out ?_)
                | (with_reducible refine wpList_storeAll (o := ⟨none, _, _, _, _, _⟩) (vs := [.slice (some ⟨gk1, 0, none⟩) r cr, .slice (some ⟨bb, ob, none⟩) 256 cB]) rwC rfl (.tmp 2) (.tmp 118) rfl rfl HRr.out HZ.out HLc.out (one2 _ _ _ _ _ _) rfl ?_))
              intro w7 hk7 ho7
              have HK7 : Kp _ := ⟨hk7⟩
              clear hk7
              go_wp2
              refine ret_arr rfl rwC rfl HK7.out HLc.out rfl ⟨some ⟨gk1, 0, none⟩, cr, some ⟨bb, ob, none⟩, cB, by rw [HR11.out], ?_, hBw.trans (ho7.below (by omega))⟩
              have hs7 : w7.heap.size = wr.heap.size := ho7.size
              have hcell : ∀ p : Addr, p.block < b1 → p.block ≠ g2 → p.block ≠ g1 → w7.cell? p = w6.cell? p := fun p h1 h2 h3 => World.cell?_of_block (w := w6) ((ho7.block p.block h3).trans (HE.out p.block h1 h2))
              have hrow : ∀ q, q < 11 → w7.cell? ⟨gk1, q, none⟩ = some (.slice (some ⟨gl, 16 * q, none⟩) 16 (cl - 16 * q)) := fun q hq => by
                have hc := H.out.cells (g := gk1) rfl q _ (keyV_at gl cl r q (by rw [HR11.out]; exact hq))
                rw [Addr.add_lit, Nat.zero_add] at hc
                exact (World.cell?_of_block (w := wr) (a := ⟨gk1, q, none⟩) (ho7.block gk1 (by omega))).trans hc
              have hby : ∀ i, i < 176 → w7.cell? ⟨gl, i, none⟩ = some (.int .i64 ((kby boxB key i).toNat : Int)) := fun i hi => (hcell ⟨gl, i, none⟩ hGG.1 hGG.2.1 HGb.out).trans (HCe6.out i hi)
              have hbxx : Is w7 w7.heap.size (some ⟨bb, ob, none⟩) 256 cB boxB := (HX6.out.keep1 (w' := w7) (fun j => hcell ⟨bb, j, none⟩ (Nat.lt_trans hbb3 hGG.2.2.2.1) (Nat.ne_of_lt hbb3) (by have := HBG.out; show bb ≠ g1; omega))).more (by omega)
              exact cis_done hrow hby hbxx (by omega) (by omega) HCL.out.1 HCL.out.2
            | succ g5 =>
              have hr11 : r < 11 := by omega
              have hJJ := hJ.out
              have hJI : (J : Int) < 176 := by omega
              obtain ⟨J16, hJ16⟩ : ∃ x, x = J + 16 := ⟨_, rfl⟩
              have hw16 : IntKind.i64.wrap ((J : Int) + 16) = (J16 : Int) := by rw [IntKind.wrap_i64]; omega
              have hcl := HCL.out
              have hGG := HG.out
              have hcK : wr.drew.cell? ⟨g2, 0, none⟩ = some (.slice Ar r cr) := by show wr.cell? _ = _; rw [HC.out.cell? 0]; rfl
              have hCf := HC.out
              have HCd : Kp _ := ⟨HC.out.drew⟩
              have hszd : b1 ≤ wr.drew.heap.size := hbs
              have HJ : Kp (J = 16 * r) := ⟨hJJ⟩
              have hcut : (if cl = J then (some ⟨gl, 0, none⟩ : Option Addr) else (some ⟨gl, 0, none⟩ : Option Addr).map (·.add J)) = some ⟨gl, J, none⟩ := by
                rw [if_neg (by omega)]; simp only [Option.map_some, Addr.add_lit, Nat.zero_add]
              have hJb : J + 16 ≤ cl ∧ J16 = J + 16 := ⟨by omega, hJ16⟩
              have HJb : Kp (J + 16 ≤ cl ∧ J16 = J + 16) := ⟨hJb⟩
              clear hJ hJJ hJ16 hJb
              go_wp2_with fail
              refine wp_region_any (by kernel_rfl) ?_
              change wpAny _ _ _ _ _ _ _ wr.drew
              refine wpAny_take (i := 0) (oi := ⟨some 108, _, _, _, _, _⟩) (v := ?_) rfl (by kernel_rfl) (by kernel_rfl) (by kernel_rfl) (fun _ _ _ h => h) (Or.inl ⟨by rfl, by intro w; go_simp; try rfl⟩) ?_
              try simp only [Act.put, List.setIfInBounds_toArray, List.set_cons_zero, List.set_cons_succ]
              refine wpAny_take (i := 2) (oi := ⟨some 110, _, _, _, _, _⟩) (v := ?_) rfl (by kernel_rfl) (by kernel_rfl) (by kernel_rfl) (fun _ _ _ h => h) (Or.inl ⟨by rfl, by intro w; go_simp; try rfl⟩) ?_
              try simp only [Act.put, List.setIfInBounds_toArray, List.set_cons_zero, List.set_cons_succ]
              refine wpAny_take (i := 3) (oi := ⟨some 111, _, _, _, _, _⟩) (v := ?_) rfl (by kernel_rfl) (by kernel_rfl) (by kernel_rfl) (fun _ _ _ h => h) (Or.inl ⟨by rfl, by intro w; go_simp; try rfl⟩) ?_
              try simp only [Act.put, List.setIfInBounds_toArray, List.set_cons_zero, List.set_cons_succ]
              refine wpAny_take (i := 4) (oi := ⟨some 112, _, _, _, _, _⟩) (v := ?_) rfl (by kernel_rfl) (by kernel_rfl) (by kernel_rfl) (fun _ _ _ h => h) (Or.inl ⟨by rfl, by intro w; go_simp; try rfl⟩) ?_
              try simp only [Act.put, List.setIfInBounds_toArray, List.set_cons_zero, List.set_cons_succ]
              refine wpAny_take (i := 5) (oi := ⟨some 113, _, _, _, _, _⟩) (v := ?_) rfl (by kernel_rfl) (by kernel_rfl) (by kernel_rfl) (fun _ _ _ h => h) (Or.inl ⟨by rfl, by intro w; go_simp; try rfl⟩) ?_
              try simp only [Act.put, List.setIfInBounds_toArray, List.set_cons_zero, List.set_cons_succ]
              refine wpAny_take (i := 6) (oi := ⟨some 114, _, _, _, _, _⟩) (v := .slice (some ⟨gl, J, none⟩) 16 (cl - J)) rfl (by kernel_rfl) (by kernel_rfl) (by kernel_rfl) (fun _ _ _ h => h) (yields_cut_lh (by rfl) elI (.tmp 110) (.tmp 111) (.tmp 113) rfl rfl rfl rfl J J16 rfl rfl (by have := HJb.out; omega) (by have := HJb.out; omega) hcut (by have := HJb.out; omega) rfl) ?_
              try simp only [Act.put, List.setIfInBounds_toArray, List.set_cons_zero, List.set_cons_succ]
              refine wpAny_ready (rs := [1, 7]) (by kernel_rfl) (by simp) ?_
              refine AllReady.cons (o := ⟨some 109, _, _, _, _, _⟩) rfl (fun K hK => ?_) (AllReady.cons (o := ⟨some 115, _, _, _, _, _⟩) rfl (fun K hK => ?_) AllReady.nil)
              · go_simp
                refine hK _ _ ?_
                clear hK K
                try simp only [Act.put, List.setIfInBounds_toArray, List.set_cons_zero, List.set_cons_succ]
                refine wpAny_ready (rs := [7]) (by kernel_rfl) (by simp) ?_
                refine AllReady.cons (o := ⟨some 115, _, _, _, _, _⟩) rfl (fun K hK => ?_) AllReady.nil
                go_simp
                refine hK _ _ ?_
                clear hK K
                try simp only [Act.put, List.setIfInBounds_toArray, List.set_cons_zero, List.set_cons_succ]
                refine wpAny_ready (rs := [8]) (by kernel_rfl) (by simp) ?_
                refine AllReady.cons (o := ⟨some 116, _, _, _, _, _⟩) rfl (fun K hK => ?_) AllReady.nil
                refine step_app1 (o := ⟨some 116, _, _, _, _, _⟩) (y := .slice (some ⟨gl, J, none⟩) 16 (cl - J)) wr.drew rfl elII rfl (.tmp 109) (.tmp 115) rfl b1 _ r _ rfl H.out.drew rfl rfl (by simp only [maxLen]; omega) (by omega) hszd ?_
                intro v' w8 H' hb8 hot hob _
                refine hK _ _ ?_
                clear hK K
                try simp only [Act.put, List.setIfInBounds_toArray, List.set_cons_zero, List.set_cons_succ]
                have HC8 : Kp (Blk w8 g2 36 [.slice Ar r cr, .slice (some ⟨bb, ob, none⟩) 256 cB]) := ⟨⟨(hb8.block g2 hGG.2.2.2.1).trans HCd.out.heap⟩⟩
                obtain ⟨A9, c9, rfl, _⟩ := own_form H'.out
                have hc8 := HC8.out.cell? 0
                have hf8 := HC8.out.frozen 0
                refine wpAny_take (i := 9) (oi := ⟨some 117, _, _, _, _, _⟩) (v := ?_) rfl (by kernel_rfl) (by kernel_rfl) (by kernel_rfl) (fun _ _ _ h => h) (Or.inl ⟨by rfl, by intro w; go_simp; try rfl⟩) ?_
                try simp only [Act.put, List.setIfInBounds_toArray, List.set_cons_zero, List.set_cons_succ]
                refine wpAny_ready (rs := [10]) (by kernel_rfl) (by simp) ?_
                refine AllReady.cons (o := ⟨none, _, _, _, _, _⟩) rfl (fun K hK => ?_) AllReady.nil
                go_simp
                refine hK _ _ ?_
                clear hK K
                try simp only [Act.put]
                refine wpAny_done (by kernel_rfl) ?_ _
                have HC9 : Kp (Blk (w8.setCell ⟨g2, 0, none⟩ (.slice A9 (r + 1) c9)) g2 36 [.slice A9 (r + 1) c9, .slice (some ⟨bb, ob, none⟩) 256 cB]) := ⟨HC8.out.set 0 (.slice A9 (r + 1) c9)⟩
                have HE9 : Kp (∀ k, k < b1 → k ≠ g2 → (w8.setCell ⟨g2, 0, none⟩ (.slice A9 (r + 1) c9)).heap[k]? = w6.heap[k]?) := ⟨fun k hk hn => ((Only.setCell w8 ⟨g2, 0, none⟩ (.slice A9 (r + 1) c9)).block k hn).trans ((hb8.block k hk).trans (HE.out k hk hn))⟩
                have hbs9 : b1 ≤ (w8.setCell ⟨g2, 0, none⟩ (.slice A9 (r + 1) c9)).heap.size := by rw [(Only.setCell w8 ⟨g2, 0, none⟩ (.slice A9 (r + 1) c9)).size]; exact Nat.le_trans hszd hb8.size
                have hBw9 : Below w.heap.size w (w8.setCell ⟨g2, 0, none⟩ (.slice A9 (r + 1) c9)) := ((hBw.drew).trans (hb8.mono (by omega))).setCell (by show w.heap.size ≤ g2; omega) _
                have H9 : Hid ((w8.setCell ⟨g2, 0, none⟩ (.slice A9 (r + 1) c9)).ownsRow b1 34 1 (.slice A9 (r + 1) c9) (r + 1) (keyV gl cl (r + 1))) := by
                  show World.ownsRow _ _ _ _ _ _ _
                  rw [keyV_succ, ← HJ.out]
                  exact own_setCell H'.out hGG.2.2.2.1 _
                have HJ9 : Kp (J16 = 16 * (r + 1)) := ⟨by have := HJb.out; have := HJ.out; omega⟩
                clear hc8 hf8 HC8 H H' HC HE hBw HCd hcK hCf hb8 hot hob
                go_wp2
                go_roundg g5
                case rel => exact ⟨r + 1, J16, by omega, HJ9, by have := HJb.out; go_num, A9, c9, HC9, H9, HE9, hbs9, hBw9⟩
                case measure => omega
              · go_simp
                refine hK _ _ ?_
                clear hK K
                try simp only [Act.put, List.setIfInBounds_toArray, List.set_cons_zero, List.set_cons_succ]
                have hcK2 : (wr.alloc (.cells #[.slice (some ⟨gl, J, none⟩) 16 (cl - J)] 34)).drew.cell? ⟨g2, 0, none⟩ = some (.slice Ar r cr) := ((((Below.refl _ _).alloc (Nat.le_refl _) _).drew).cell (p := ⟨g2, 0, none⟩) HCd.out.lt).trans hcK
                refine wpAny_ready (rs := [1]) (by kernel_rfl) (by simp) ?_
                refine AllReady.cons (o := ⟨some 109, _, _, _, _, _⟩) rfl (fun K hK => ?_) AllReady.nil
                go_simp
                refine hK _ _ ?_
                clear hK K hcK2
                try simp only [Act.put, List.setIfInBounds_toArray, List.set_cons_zero, List.set_cons_succ]
                refine wpAny_ready (rs := [8]) (by kernel_rfl) (by simp) ?_
                refine AllReady.cons (o := ⟨some 116, _, _, _, _, _⟩) rfl (fun K hK => ?_) AllReady.nil
                refine step_app1 (o := ⟨some 116, _, _, _, _, _⟩) (y := .slice (some ⟨gl, J, none⟩) 16 (cl - J)) wr.drew rfl elII rfl (.tmp 109) (.tmp 115) rfl b1 _ r _ rfl H.out.drew rfl rfl (by simp only [maxLen]; omega) (by omega) hszd ?_
                intro v' w8 H' hb8 hot hob _
                refine hK _ _ ?_
                clear hK K
                try simp only [Act.put, List.setIfInBounds_toArray, List.set_cons_zero, List.set_cons_succ]
                have HC8 : Kp (Blk w8 g2 36 [.slice Ar r cr, .slice (some ⟨bb, ob, none⟩) 256 cB]) := ⟨⟨(hb8.block g2 hGG.2.2.2.1).trans HCd.out.heap⟩⟩
                obtain ⟨A9, c9, rfl, _⟩ := own_form H'.out
                have hc8 := HC8.out.cell? 0
                have hf8 := HC8.out.frozen 0
                refine wpAny_take (i := 9) (oi := ⟨some 117, _, _, _, _, _⟩) (v := ?_) rfl (by kernel_rfl) (by kernel_rfl) (by kernel_rfl) (fun _ _ _ h => h) (Or.inl ⟨by rfl, by intro w; go_simp; try rfl⟩) ?_
                try simp only [Act.put, List.setIfInBounds_toArray, List.set_cons_zero, List.set_cons_succ]
                refine wpAny_ready (rs := [10]) (by kernel_rfl) (by simp) ?_
                refine AllReady.cons (o := ⟨none, _, _, _, _, _⟩) rfl (fun K hK => ?_) AllReady.nil
                go_simp
                refine hK _ _ ?_
                clear hK K
                try simp only [Act.put]
                refine wpAny_done (by kernel_rfl) ?_ _
                have HC9 : Kp (Blk (w8.setCell ⟨g2, 0, none⟩ (.slice A9 (r + 1) c9)) g2 36 [.slice A9 (r + 1) c9, .slice (some ⟨bb, ob, none⟩) 256 cB]) := ⟨HC8.out.set 0 (.slice A9 (r + 1) c9)⟩
                have HE9 : Kp (∀ k, k < b1 → k ≠ g2 → (w8.setCell ⟨g2, 0, none⟩ (.slice A9 (r + 1) c9)).heap[k]? = w6.heap[k]?) := ⟨fun k hk hn => ((Only.setCell w8 ⟨g2, 0, none⟩ (.slice A9 (r + 1) c9)).block k hn).trans ((hb8.block k hk).trans (HE.out k hk hn))⟩
                have hbs9 : b1 ≤ (w8.setCell ⟨g2, 0, none⟩ (.slice A9 (r + 1) c9)).heap.size := by rw [(Only.setCell w8 ⟨g2, 0, none⟩ (.slice A9 (r + 1) c9)).size]; exact Nat.le_trans hszd hb8.size
                have hBw9 : Below w.heap.size w (w8.setCell ⟨g2, 0, none⟩ (.slice A9 (r + 1) c9)) := ((hBw.drew).trans (hb8.mono (by omega))).setCell (by show w.heap.size ≤ g2; omega) _
                have H9 : Hid ((w8.setCell ⟨g2, 0, none⟩ (.slice A9 (r + 1) c9)).ownsRow b1 34 1 (.slice A9 (r + 1) c9) (r + 1) (keyV gl cl (r + 1))) := by
                  show World.ownsRow _ _ _ _ _ _ _
                  rw [keyV_succ, ← HJ.out]
                  exact own_setCell H'.out hGG.2.2.2.1 _
                have HJ9 : Kp (J16 = 16 * (r + 1)) := ⟨by have := HJb.out; have := HJ.out; omega⟩
                clear hc8 hf8 HC8 H H' HC HE hBw HCd hcK hCf hb8 hot hob
                go_wp2
                go_roundg g5
                case rel => exact ⟨r + 1, J16, by omega, HJ9, by have := HJb.out; go_num, A9, c9, HC9, H9, HE9, hbs9, hBw9⟩
                case measure => omega
        | succ g3 =>
          have hI2 : I = 16 + 4 * m := hI.out
          have hm40 : m < 40 := by omega
          obtain ⟨gl, cl, rfl, hcl, hbl, hll⟩ := own_some H.out (by omega)
          have hcI : (I : Int) < 176 := by omega
          have hsz := Nat.le_trans hle0 hB.size
          have HCe : Kp (∀ i, i < I → wr.cell? ⟨gl, i, none⟩ = some (.int .i64 ((kby boxB key i).toNat : Int))) := ⟨fun i hi => by
            have h := H.out.cells (g := gl) rfl i _ (kbl_at boxB key I i hi)
            rwa [Addr.add_lit, Nat.zero_add] at h⟩
          obtain ⟨p, hp⟩ : ∃ p, p = 12 + 4 * m := ⟨_, rfl⟩
          have e0 := HCe.out p (by omega)
          have e1 := HCe.out (p + 1) (by omega)
          have e2 := HCe.out (p + 2) (by omega)
          have e3 := HCe.out (p + 3) (by omega)
          have HKp : Kp (∀ k, k < 4 → m % 4 ≠ 0 → kby boxB key (I + k) = kby boxB key (4 * m + k) ^^^ kby boxB key (p + k)) := ⟨fun k hk h0 => by
            have h := kby_plain boxB key m k hm40 hk h0
            rw [show 16 + 4 * m - 4 + k = p + k by omega] at h
            rw [hI2]; exact h⟩
          have HKr : Kp (∀ k, k < 4 → m % 4 = 0 → kby boxB key (I + k) = kby boxB key (4 * m + k) ^^^ (boxB.getD (kby boxB key (p + (k + 1) % 4)).toNat 0 ^^^ (if k = 0 then rcon (m / 4) else 0))) := ⟨fun k hk h0 => by
            have h := kby_round boxB key m k hm40 hk h0
            rw [show 16 + 4 * m - 4 + (k + 1) % 4 = p + (k + 1) % 4 by omega] at h
            rw [hI2]; exact h⟩
          have hw0 : IntKind.i64.wrap ((I : Int) - 4) = (p : Int) := by rw [IntKind.wrap_i64]; omega
          have hw1 : IntKind.i64.wrap ((I : Int) - 3) = ((p + 1 : Nat) : Int) := by rw [IntKind.wrap_i64]; omega
          have hw2 : IntKind.i64.wrap ((I : Int) - 2) = ((p + 2 : Nat) : Int) := by rw [IntKind.wrap_i64]; omega
          have hw3 : IntKind.i64.wrap ((I : Int) - 1) = ((p + 3 : Nat) : Int) := by rw [IntKind.wrap_i64]; omega
          have l0 : (p : Int) < (I : Int) := by omega
          have l1 : ((p + 1 : Nat) : Int) < (I : Int) := by omega
          have l2 : ((p + 2 : Nat) : Int) < (I : Int) := by omega
          have l3 : ((p + 3 : Nat) : Int) < (I : Int) := by omega
          generalize hx0 : kby boxB key p = x0 at e0
          generalize hx1 : kby boxB key (p + 1) = x1 at e1
          generalize hx2 : kby boxB key (p + 2) = x2 at e2
          generalize hx3 : kby boxB key (p + 3) = x3 at e3
          have HX : Kp (kby boxB key p = x0 ∧ kby boxB key (p + 1) = x1 ∧ kby boxB key (p + 2) = x2 ∧ kby boxB key (p + 3) = x3) := ⟨⟨hx0, hx1, hx2, hx3⟩⟩
          obtain ⟨p1, hp1⟩ : ∃ q, q = p + 1 := ⟨_, rfl⟩
          obtain ⟨p2, hp2⟩ : ∃ q, q = p + 2 := ⟨_, rfl⟩
          obtain ⟨p3, hp3⟩ : ∃ q, q = p + 3 := ⟨_, rfl⟩
          rw [← hp1] at e1 hw1 l1
          rw [← hp2] at e2 hw2 l2
          rw [← hp3] at e3 hw3 l3
          have HII : Kp (I = 16 + 4 * m) := ⟨hI2⟩
          clear hx0 hx1 hx2 hx3 hp hp1 hp2 hp3 hI2
          go_wp2_with fail
          go_still_tail 20, (by kernel_rfl)
          change wpList _ _ _ _ _ wr.drew
          clear e0 e1 e2 e3 hw0 hw1 hw2 hw3 l0 l1 l2 l3
          by_cases h4 : m % 4 = 0
          · have hq2 : ((I : Int) % 16 == 0) = true := by rw [beq_iff_eq]; have := HII.out; omega
            go_wp2_with fail
            have hbA : Below wr.heap.size wr ((wr.alloc (.cells (cellsI [x0, x1, x2, x3]).toArray 3)).drew) := ((Below.refl _ _).alloc (Nat.le_refl _) _).drew
            have H2 : Hid (((wr.alloc (.cells (cellsI [x0, x1, x2, x3]).toArray 3)).drew).ownsRow b0 3 1 (.slice (some ⟨gl, 0, none⟩) I cl) I (cellsI (kbl boxB key I))) := own_below H hbA
            have HW1 : Kp (Blk ((wr.alloc (.cells (cellsI [x0, x1, x2, x3]).toArray 3)).drew) wr.heap.size 3 (cellsI [x0, x1, x2, x3])) := ⟨(Blk.new wr 3 (cellsI [x0, x1, x2, x3])).drew⟩
            have hB1 : Below b0 w5 ((wr.alloc (.cells (cellsI [x0, x1, x2, x3]).toArray 3)).drew) := hB.trans (hbA.mono (Nat.le_trans hle0 hB.size))
            have hgl1 : gl < wr.heap.size := hll
            have hgb1 : b0 ≤ wr.heap.size := Nat.le_trans hle0 hB.size
            obtain ⟨wL, hV⟩ : ∃ x, x = (wr.alloc (.cells (cellsI [x0, x1, x2, x3]).toArray 3)).drew := ⟨_, rfl⟩
            have hV2 : (wr.alloc (.cells #[.int .i64 ((x0).toNat : Int), .int .i64 ((x1).toNat : Int), .int .i64 ((x2).toNat : Int), .int .i64 ((x3).toNat : Int)] 3)).drew = wL := hV.symm
            obtain ⟨gw, hg⟩ : ∃ x, x = wr.heap.size := ⟨_, rfl⟩
            rw [← hV] at H2 HW1 hB1 hbA
            rw [← hg] at HW1 hgl1 hgb1 ⊢
            have hls : gw < wL.heap.size := HW1.out.lt
            rw [hV2]
            clear hV hV2 hg hbA H hB hq2
            have hg2 : g2 < b0 := n3
            have cC : wL.cell? ⟨g2, 1, none⟩ = some (.slice (some ⟨bb, ob, none⟩) 256 cB) := by rw [(HC5.out.below hB1 hg2).cell? 1]; rfl
            have cw0 : wL.cell? ⟨gw, 0, none⟩ = some (.int .i64 (x0.toNat : Int)) := HW1.out.cell? 0
            have cw1 : wL.cell? ⟨gw, 1, none⟩ = some (.int .i64 (x1.toNat : Int)) := HW1.out.cell? 1
            have cw2 : wL.cell? ⟨gw, 2, none⟩ = some (.int .i64 (x2.toNat : Int)) := HW1.out.cell? 2
            have cw3 : wL.cell? ⟨gw, 3, none⟩ = some (.int .i64 (x3.toNat : Int)) := HW1.out.cell? 3
            have cb : ∀ x : UInt8, wL.cell? ⟨bb, ob + x.toNat, none⟩ = some (.int .i64 ((boxB.getD x.toNat 0).toNat : Int)) := fun x => (hB1.cell (p := ⟨bb, ob + x.toNat, none⟩) (by show bb < b0; omega)).trans (HBX5.out x)
            have cb0 := cb x0
            have cb1 := cb x1
            have cb2 := cb x2
            have cb3 := cb x3
            have hx0 : (x0.toNat : Int) < 256 := by have := x0.toNat_lt; omega
            have hx1 : (x1.toNat : Int) < 256 := by have := x1.toNat_lt; omega
            have hx2 : (x2.toNat : Int) < 256 := by have := x2.toNat_lt; omega
            have hx3 : (x3.toNat : Int) < 256 := by have := x3.toNat_lt; omega
            obtain ⟨z0, hz0⟩ : ∃ z, z = boxB.getD x0.toNat 0 := ⟨_, rfl⟩
            obtain ⟨z1, hz1⟩ : ∃ z, z = boxB.getD x1.toNat 0 := ⟨_, rfl⟩
            obtain ⟨z2, hz2⟩ : ∃ z, z = boxB.getD x2.toNat 0 := ⟨_, rfl⟩
            obtain ⟨z3, hz3⟩ : ∃ z, z = boxB.getD x3.toNat 0 := ⟨_, rfl⟩
            rw [← hz0] at cb0
            rw [← hz1] at cb1
            rw [← hz2] at cb2
            rw [← hz3] at cb3
            obtain ⟨rc, hrc⟩ : ∃ z, z = rcon ((m + 3) / 4) := ⟨_, rfl⟩
            rw [← hrc]
            have hv := i64_xor8 z1 rc
            obtain ⟨y0, hy0⟩ : ∃ y, y = z1 ^^^ rc := ⟨_, rfl⟩
            rw [← hy0] at hv
            have HKz : Kp (∀ k, k < 4 → m % 4 = 0 → kby boxB key (I + k) = kby boxB key (4 * m + k) ^^^ ([y0, z2, z3, z0].getD k 0)) := ⟨fun k hk h0 => by
              have h := HKr.out k hk h0
              have hX := HX.out
              rw [h]
              rcases (by omega : k = 0 ∨ k = 1 ∨ k = 2 ∨ k = 3) with rfl | rfl | rfl | rfl
              · rw [show p + (0 + 1) % 4 = p + 1 from rfl, hX.2.1, ← hz1, if_pos rfl, show m / 4 = (m + 3) / 4 by omega, ← hrc, ← hy0]; rfl
              · rw [show p + (1 + 1) % 4 = p + 2 from rfl, hX.2.2.1, ← hz2, if_neg (by omega)]; simp
              · rw [show p + (2 + 1) % 4 = p + 3 from rfl, hX.2.2.2, ← hz3, if_neg (by omega)]; simp
              · rw [show p + (3 + 1) % 4 = p from rfl, hX.1, ← hz0, if_neg (by omega)]; simp⟩
            have HRC : Kp (rc = rcon ((m + 3) / 4)) := ⟨hrc⟩
            clear cb hz0 hz1 hz2 hz3 hy0 hrc hg2
            go_wp2_with fail
            go_still_tail 30, (by kernel_rfl)
            change wpList _ _ _ _ _ wL.drew
            clear cC cw0 cw1 cw2 cw3 cb0 cb1 cb2 cb3 hx0 hx1 hx2 hx3
            go_wp2_with fail
            have hbA : Below wL.heap.size wL ((wL.alloc (.cells (cellsI [y0, z2, z3, z0]).toArray 3)).drew) := ((Below.refl _ _).alloc (Nat.le_refl _) _).drew
            have H22 : Hid (((wL.alloc (.cells (cellsI [y0, z2, z3, z0]).toArray 3)).drew).ownsRow b0 3 1 (.slice (some ⟨gl, 0, none⟩) I cl) I (cellsI (kbl boxB key I))) := own_below H2 hbA
            have HW2 : Kp (Blk ((wL.alloc (.cells (cellsI [y0, z2, z3, z0]).toArray 3)).drew) wL.heap.size 3 (cellsI [y0, z2, z3, z0])) := ⟨(Blk.new wL 3 (cellsI [y0, z2, z3, z0])).drew⟩
            have hB2 : Below b0 w5 ((wL.alloc (.cells (cellsI [y0, z2, z3, z0]).toArray 3)).drew) := hB1.trans (hbA.mono (Nat.le_trans hle0 hB1.size))
            have hgl2 : gl < wL.heap.size := by omega
            have hgb2 : b0 ≤ wL.heap.size := Nat.le_trans hle0 hB1.size
            obtain ⟨wM, hV⟩ : ∃ x, x = (wL.alloc (.cells (cellsI [y0, z2, z3, z0]).toArray 3)).drew := ⟨_, rfl⟩
            have hV2 : (wL.alloc (.cells #[.int .i64 ((y0).toNat : Int), .int .i64 ((z2).toNat : Int), .int .i64 ((z3).toNat : Int), .int .i64 ((z0).toNat : Int)] 3)).drew = wM := hV.symm
            obtain ⟨gv, hg⟩ : ∃ x, x = wL.heap.size := ⟨_, rfl⟩
            rw [← hV] at H22 HW2 hB2 hbA
            rw [← hg] at HW2 hgl2 hgb2 ⊢
            have hls : gv < wM.heap.size := HW2.out.lt
            rw [hV2]
            have hml := refmul_st rc 2 wM
            rw [show (((2 : UInt8).toNat : Nat) : Int) = 2 from rfl, mulU_two] at hml
            clear hV hV2 hg hbA H2 hB1 HW1
            refine hml.mono ?_
            rintro e w' ⟨rfl, rfl⟩
            clear hml
            go_wp2
            go_loopg [4, 9] 4 (fun g v4 v9 wx => ∃ k : Nat, k + g = 4 ∧ v9 = .int .i64 k ∧ Hid (wx.ownsRow b0 3 1 v4 (I + k) (cellsI (kbl boxB key (I + k)))) ∧ Kp (Blk wx gv 3 (cellsI [y0, z2, z3, z0])) ∧ Kp (v4.ownBlock ≠ some gv) ∧ Below b0 w5 wx)
            case atStart => exact ⟨0, by omega, rfl, H22, HW2, ⟨by show (some gl : Option Nat) ≠ some gv; intro e; have := Option.some.inj e; omega⟩, hB2⟩
            case round =>
              clear H22 HW2 hB2
              obtain ⟨k, hk, rfl, H, HW, HOw, hB⟩ := hrel
              cases gk with
              | zero =>
                obtain rfl : k = 4 := by omega
                obtain ⟨Ak, ck, rfl, _⟩ := own_form H.out
                obtain ⟨J, hJ⟩ : ∃ J, J = I + 4 := ⟨_, rfl⟩
                rw [← hJ] at H
                have hJI : (I : Int) + 4 = (J : Int) := by omega
                have HJ : Kp (J = 16 + 4 * (m + 1)) := ⟨by have := HII.out; omega⟩
                have HRc : Kp (xt rc = rcon ((m + 1 + 3) / 4)) := ⟨by rw [HRC.out, show (m + 1 + 3) / 4 = (m + 3) / 4 + 1 by omega]; rfl⟩
                rw [← hJ]
                clear hJ
                go_wp2
                go_roundg g3
                case rel => exact ⟨m + 1, J, by omega, HJ, by go_num, by rw [← HRc.out], H, hB⟩
                case measure => omega
              | succ g5 =>
                have hk4 : (k : Int) < 4 := by omega
                have hII := HII.out
                obtain ⟨ge, ce, rfl, hce, hbe, hle⟩ := own_some H.out (by omega)
                obtain ⟨q, hq⟩ : ∃ q, q = 4 * m + k := ⟨_, rfl⟩
                have cq : wr.cell? ⟨ge, q, none⟩ = some (.int .i64 ((kby boxB key q).toNat : Int)) := by
                  have h := H.out.cells (g := ge) rfl q _ (kbl_at boxB key (I + k) q (by omega))
                  rwa [Addr.add_lit, Nat.zero_add] at h
                have hyk : ∃ y : UInt8, wr.cell? ⟨gv, k, none⟩ = some (.int .i64 (y.toNat : Int)) ∧ kby boxB key (I + k) = kby boxB key q ^^^ y := by
                  have hc := HW.out.cell? k
                  have hkk := HKz.out k (by omega) h4
                  rw [← hq] at hkk
                  rw [hc]
                  have hX := HX.out
                  rcases (by omega : k = 0 ∨ k = 1 ∨ k = 2 ∨ k = 3) with rfl | rfl | rfl | rfl
                  · exact ⟨y0, rfl, hkk⟩
                  · exact ⟨z2, rfl, hkk⟩
                  · exact ⟨z3, rfl, hkk⟩
                  · exact ⟨z0, rfl, hkk⟩
                obtain ⟨y, cy, hy⟩ := hyk
                have hq1 : IntKind.i64.wrap ((I : Int) - 16) = ((4 * m : Nat) : Int) := by rw [IntKind.wrap_i64]; omega
                have hq2' : IntKind.i64.wrap (((4 * m : Nat) : Int) + (k : Int)) = (q : Int) := by rw [IntKind.wrap_i64]; omega
                obtain ⟨m4, hm4⟩ : ∃ q, q = 4 * m := ⟨_, rfl⟩
                rw [← hm4] at hq1 hq2'
                obtain ⟨N, hN⟩ : ∃ N, N = I + k := ⟨_, rfl⟩
                have hNI : (N : Int) ≤ 200 := by omega
                have hqN : (q : Int) < (N : Int) := by omega
                have hN63 : N ≤ 200 := by omega
                rw [← hN] at H hy hce ⊢
                have HT : Kp _ := ⟨kbl_succ boxB key N⟩
                rw [hy] at HT
                have HNk : Kp (N + 1 = I + (k + 1)) := ⟨by omega⟩
                generalize kby boxB key q = x at *
                have hv := i64_xor8 x y
                have HW2 : Kp _ := ⟨HW.out.drew⟩
                have hszr := Nat.le_trans hle0 hB.size
                have hgr := HW.out.lt
                clear hq hm4 hN hII hy
                have cq2 : Two wr.drew ⟨ge, q, none⟩ ⟨gv, k, none⟩ (.int .i64 (x.toNat : Int)) (.int .i64 (y.toNat : Int)) := ⟨cq, cy⟩
                have q1 : ∀ W, Two W ⟨ge, q, none⟩ ⟨gv, k, none⟩ (.int .i64 (x.toNat : Int)) (.int .i64 (y.toNat : Int)) → W.cell? ⟨ge, q, none⟩ = some (.int .i64 (x.toNat : Int)) := fun W h => h.a
                have q2 : ∀ W, Two W ⟨ge, q, none⟩ ⟨gv, k, none⟩ (.int .i64 (x.toNat : Int)) (.int .i64 (y.toNat : Int)) → W.cell? ⟨gv, k, none⟩ = some (.int .i64 (y.toNat : Int)) := fun W h => h.b
                have hqN2 : q < N := by omega
                have hced : ge < wr.drew.heap.size := hle
                have hgrd : gv < wr.drew.heap.size := hgr
                clear cq cy
                go_wp2_with fail
                refine wp_region_held_drew (S := fun W => Two W ⟨ge, q, none⟩ ⟨gv, k, none⟩ (.int .i64 (x.toNat : Int)) (.int .i64 (y.toNat : Int))) (by kernel_rfl) (cq2) (fun hHeld => ?_)
                refine wpAnyH_take (i := 0) (oi := ⟨some 89, _, _, _, _, _⟩) (v := ?_) rfl (by kernel_rfl) (by kernel_rfl) (by kernel_rfl) (fun _ _ _ h => h) (Or.inl ⟨by rfl, by intro w hSw; go_simp; try rfl⟩) (by assumption) ?_
                try simp only [Act.put, List.setIfInBounds_toArray, List.set_cons_zero, List.set_cons_succ]
                refine wpAnyH_take (i := 1) (oi := ⟨some 90, _, _, _, _, _⟩) (v := ?_) rfl (by kernel_rfl) (by kernel_rfl) (by kernel_rfl) (fun _ _ _ h => h) (Or.inl ⟨by rfl, by intro w hSw; go_simp; try rfl⟩) (by assumption) ?_
                try simp only [Act.put, List.setIfInBounds_toArray, List.set_cons_zero, List.set_cons_succ]
                refine wpAnyH_take (i := 2) (oi := ⟨some 91, _, _, _, _, _⟩) (v := ?_) rfl (by kernel_rfl) (by kernel_rfl) (by kernel_rfl) (fun _ _ _ h => h) (Or.inl ⟨by rfl, by intro w hSw; go_simp; try rfl⟩) (by assumption) ?_
                try simp only [Act.put, List.setIfInBounds_toArray, List.set_cons_zero, List.set_cons_succ]
                refine wpAnyH_take (i := 3) (oi := ⟨some 92, _, _, _, _, _⟩) (v := ?_) rfl (by kernel_rfl) (by kernel_rfl) (by kernel_rfl) (fun _ _ _ h => h) (Or.inl ⟨by rfl, by intro w hSw; go_simp; try rfl⟩) (by assumption) ?_
                try simp only [Act.put, List.setIfInBounds_toArray, List.set_cons_zero, List.set_cons_succ]
                refine wpAnyH_take (i := 4) (oi := ⟨some 93, _, _, _, _, _⟩) (v := ?_) rfl (by kernel_rfl) (by kernel_rfl) (by kernel_rfl) (fun _ _ _ h => h) (Or.inl ⟨by rfl, by intro w hSw; go_simp; try rfl⟩) (by assumption) ?_
                try simp only [Act.put, List.setIfInBounds_toArray, List.set_cons_zero, List.set_cons_succ]
                refine wpAnyH_take (i := 5) (oi := ⟨some 94, _, _, _, _, _⟩) (v := ?_) rfl (by kernel_rfl) (by kernel_rfl) (by kernel_rfl) (fun _ _ _ h => h) (Or.inl ⟨by rfl, by intro w hSw; go_simp; try rfl⟩) (by assumption) ?_
                try simp only [Act.put, List.setIfInBounds_toArray, List.set_cons_zero, List.set_cons_succ]
                refine wpAnyH_take (i := 6) (oi := ⟨some 95, _, _, _, _, _⟩) (v := ?_) rfl (by kernel_rfl) (by kernel_rfl) (by kernel_rfl) (fun _ _ _ h => h) (Or.inl ⟨by rfl, by intro w hSw; go_simp; try rfl⟩) (by assumption) ?_
                try simp only [Act.put, List.setIfInBounds_toArray, List.set_cons_zero, List.set_cons_succ]
                refine wpAnyH_take (i := 7) (oi := ⟨some 96, _, _, _, _, _⟩) (v := ?_) rfl (by kernel_rfl) (by kernel_rfl) (by kernel_rfl) (fun _ _ _ h => h) (Or.inl ⟨by rfl, by intro w hSw; go_simp; try rfl⟩) (by assumption) ?_
                try simp only [Act.put, List.setIfInBounds_toArray, List.set_cons_zero, List.set_cons_succ]
                refine wpAnyH_take (i := 8) (oi := ⟨some 97, _, _, _, _, _⟩) (v := ?_) rfl (by kernel_rfl) (by kernel_rfl) (by kernel_rfl) (fun _ _ _ h => h) (Or.inl ⟨by rfl, by intro w hSw; go_simp; try rfl⟩) (by assumption) ?_
                try simp only [Act.put, List.setIfInBounds_toArray, List.set_cons_zero, List.set_cons_succ]
                refine wpAnyH_take (i := 9) (oi := ⟨some 98, _, _, _, _, _⟩) (v := ?_) rfl (by kernel_rfl) (by kernel_rfl) (by kernel_rfl) (fun _ _ _ h => h) (Or.inl ⟨by rfl, by intro w hSw; go_simp; try rfl⟩) (by assumption) ?_
                try simp only [Act.put, List.setIfInBounds_toArray, List.set_cons_zero, List.set_cons_succ]
                refine wpAnyH_take (i := 10) (oi := ⟨some 99, _, _, _, _, _⟩) (v := ?_) rfl (by kernel_rfl) (by kernel_rfl) (by kernel_rfl) (fun _ _ _ h => h) (Or.inl ⟨by rfl, by intro w hSw; go_simp; try rfl⟩) (by assumption) ?_
                try simp only [Act.put, List.setIfInBounds_toArray, List.set_cons_zero, List.set_cons_succ]
                refine wpAnyH_take (i := 11) (oi := ⟨some 100, _, _, _, _, _⟩) (v := ?_) rfl (by kernel_rfl) (by kernel_rfl) (by kernel_rfl) (fun _ _ _ h => h) (Or.inl ⟨by rfl, by intro w hSw; go_simp; try rfl⟩) (by assumption) ?_
                try simp only [Act.put, List.setIfInBounds_toArray, List.set_cons_zero, List.set_cons_succ]
                refine wpAnyH_take (i := 12) (oi := ⟨some 101, _, _, _, _, _⟩) (v := ?_) rfl (by kernel_rfl) (by kernel_rfl) (by kernel_rfl) (fun _ _ _ h => h) (Or.inl ⟨by rfl, by intro w hSw; go_simp; try rfl⟩) (by assumption) ?_
                try simp only [Act.put, List.setIfInBounds_toArray, List.set_cons_zero, List.set_cons_succ]
                refine wpAnyH_ready (rs := [13]) (by kernel_rfl) (by simp) ?_
                refine AllReadyH.cons (o := ⟨some 102, _, _, _, _, _⟩) rfl (fun K hK => ?_) AllReadyH.nil
                go_simp
                refine hK.out _ _ (⟨(((Below.refl _ _).alloc (Nat.le_refl _) _).cell (p := ⟨ge, q, none⟩) hced).trans cq2.a, (((Below.refl _ _).alloc (Nat.le_refl _) _).cell (p := ⟨gv, k, none⟩) hgrd).trans cq2.b⟩) (fun hHeld2 => ?_)
                clear hK K hHeld
                have hHeld := hHeld2
                clear hHeld2
                try simp only [Act.put, List.setIfInBounds_toArray, List.set_cons_zero, List.set_cons_succ]
                refine wpAnyH_ready (rs := [14]) (by kernel_rfl) (by simp) ?_
                refine AllReadyH.cons (o := ⟨some 103, _, _, _, _, _⟩) rfl (fun K hK => ?_) AllReadyH.nil
                refine step_app1 (o := ⟨some 103, _, _, _, _, _⟩) wr.drew rfl elI rfl (.tmp 89) (.tmp 102) rfl b0 _ N _ rfl H.out.drew rfl rfl (by simp only [maxLen]; omega) (by omega) (by simpa using hszr) ?_
                intro v' w52 H' hb' hot hob hkeep
                refine hK.out _ _ ⟨(hkeep ge ce rfl q hqN2).trans cq2.a, (World.cell?_of_block (w := wr.drew) (hot gv HOw.out hgr)).trans cq2.b⟩ (fun hHeld2 => ?_)
                clear hK K hHeld
                have hHeld := hHeld2
                clear hHeld2
                try simp only [Act.put, List.setIfInBounds_toArray, List.set_cons_zero, List.set_cons_succ]
                refine wpAnyH_take (i := 15) (oi := ⟨some 4, _, _, _, _, _⟩) (v := ?_) rfl (by kernel_rfl) (by kernel_rfl) (by kernel_rfl) (fun _ _ _ h => h) (Or.inl ⟨by rfl, by intro w hSw; go_simp; try rfl⟩) (by assumption) ?_
                try simp only [Act.put, List.setIfInBounds_toArray, List.set_cons_zero, List.set_cons_succ]
                refine wpAnyH_done (by kernel_rfl) ?_ _
                skip
                have H2 : Hid (w52.ownsRow b0 3 1 v' (I + (k + 1)) (cellsI (kbl boxB key (I + (k + 1))))) := by
                  show World.ownsRow _ _ _ _ _ _ _
                  rw [← HNk.out, HT.out, cellsI_append]
                  exact H'.out
                have HW3 : Kp (Blk w52 gv 3 (cellsI [y0, z2, z3, z0])) := ⟨⟨(hot gv HOw.out hgr).trans HW2.out.heap⟩⟩
                have HO2 : Kp (v'.ownBlock ≠ some gv) := ⟨by
                  rcases hob with h | ⟨g', h, hl⟩
                  · rw [h]; exact HOw.out
                  · rw [h]; intro e; have e2 := Option.some.inj e; have hgr2 : gv < wr.drew.heap.size := hgr; omega⟩
                have hB' := hB.drew.trans hb'
                clear H H' HT hB hb' hot hob HW HW2 HOw hv q1 q2 hHeld cq2
                go_wp2
                go_roundg g5
                case rel => exact ⟨k + 1, by omega, by go_num, H2, HW3, HO2, hB'⟩
                case measure => omega
          · have hq2 : ((I : Int) % 16 == 0) = false := by rw [beq_eq_false_iff_ne]; have := HII.out; omega
            go_wp2_with fail
            have hbA : Below wr.heap.size wr ((wr.alloc (.cells (cellsI [x0, x1, x2, x3]).toArray 3)).drew) := ((Below.refl _ _).alloc (Nat.le_refl _) _).drew
            have H2 : Hid (((wr.alloc (.cells (cellsI [x0, x1, x2, x3]).toArray 3)).drew).ownsRow b0 3 1 (.slice (some ⟨gl, 0, none⟩) I cl) I (cellsI (kbl boxB key I))) := own_below H hbA
            have HW1 : Kp (Blk ((wr.alloc (.cells (cellsI [x0, x1, x2, x3]).toArray 3)).drew) wr.heap.size 3 (cellsI [x0, x1, x2, x3])) := ⟨(Blk.new wr 3 (cellsI [x0, x1, x2, x3])).drew⟩
            have hB1 : Below b0 w5 ((wr.alloc (.cells (cellsI [x0, x1, x2, x3]).toArray 3)).drew) := hB.trans (hbA.mono (Nat.le_trans hle0 hB.size))
            have hgl1 : gl < wr.heap.size := hll
            have hgb1 : b0 ≤ wr.heap.size := Nat.le_trans hle0 hB.size
            obtain ⟨wL, hV⟩ : ∃ x, x = (wr.alloc (.cells (cellsI [x0, x1, x2, x3]).toArray 3)).drew := ⟨_, rfl⟩
            have hV2 : (wr.alloc (.cells #[.int .i64 ((x0).toNat : Int), .int .i64 ((x1).toNat : Int), .int .i64 ((x2).toNat : Int), .int .i64 ((x3).toNat : Int)] 3)).drew = wL := hV.symm
            obtain ⟨gw, hg⟩ : ∃ x, x = wr.heap.size := ⟨_, rfl⟩
            rw [← hV] at H2 HW1 hB1 hbA
            rw [← hg] at HW1 hgl1 hgb1 ⊢
            have hls : gw < wL.heap.size := HW1.out.lt
            rw [hV2]
            clear hV hV2 hg hbA H hB hq2
            go_wp2
            go_loopg [4, 9] 4 (fun g v4 v9 wx => ∃ k : Nat, k + g = 4 ∧ v9 = .int .i64 k ∧ Hid (wx.ownsRow b0 3 1 v4 (I + k) (cellsI (kbl boxB key (I + k)))) ∧ Kp (Blk wx gw 3 (cellsI [x0, x1, x2, x3])) ∧ Kp (v4.ownBlock ≠ some gw) ∧ Below b0 w5 wx)
            case atStart => exact ⟨0, by omega, rfl, H2, HW1, ⟨by show (some gl : Option Nat) ≠ some gw; intro e; have := Option.some.inj e; omega⟩, hB1⟩
            case round =>
              clear H2 HW1 hB1
              obtain ⟨k, hk, rfl, H, HW, HOw, hB⟩ := hrel
              cases gk with
              | zero =>
                obtain rfl : k = 4 := by omega
                obtain ⟨Ak, ck, rfl, _⟩ := own_form H.out
                obtain ⟨J, hJ⟩ : ∃ J, J = I + 4 := ⟨_, rfl⟩
                rw [← hJ] at H
                have hJI : (I : Int) + 4 = (J : Int) := by omega
                have HJ : Kp (J = 16 + 4 * (m + 1)) := ⟨by have := HII.out; omega⟩
                have HRc : Kp (rcon ((m + 3) / 4) = rcon ((m + 1 + 3) / 4)) := ⟨by rw [show (m + 1 + 3) / 4 = (m + 3) / 4 by omega]⟩
                rw [← hJ]
                clear hJ
                go_wp2
                go_roundg g3
                case rel => exact ⟨m + 1, J, by omega, HJ, by go_num, by rw [← HRc.out], H, hB⟩
                case measure => omega
              | succ g5 =>
                have hk4 : (k : Int) < 4 := by omega
                have hII := HII.out
                obtain ⟨ge, ce, rfl, hce, hbe, hle⟩ := own_some H.out (by omega)
                obtain ⟨q, hq⟩ : ∃ q, q = 4 * m + k := ⟨_, rfl⟩
                have cq : wr.cell? ⟨ge, q, none⟩ = some (.int .i64 ((kby boxB key q).toNat : Int)) := by
                  have h := H.out.cells (g := ge) rfl q _ (kbl_at boxB key (I + k) q (by omega))
                  rwa [Addr.add_lit, Nat.zero_add] at h
                have hyk : ∃ y : UInt8, wr.cell? ⟨gw, k, none⟩ = some (.int .i64 (y.toNat : Int)) ∧ kby boxB key (I + k) = kby boxB key q ^^^ y := by
                  have hc := HW.out.cell? k
                  have hkk := HKp.out k (by omega) h4
                  rw [← hq] at hkk
                  rw [hc]
                  have hX := HX.out
                  rcases (by omega : k = 0 ∨ k = 1 ∨ k = 2 ∨ k = 3) with rfl | rfl | rfl | rfl
                  · exact ⟨x0, rfl, hkk.trans (congrArg (kby boxB key q ^^^ ·) hX.1)⟩
                  · exact ⟨x1, rfl, hkk.trans (congrArg (kby boxB key q ^^^ ·) hX.2.1)⟩
                  · exact ⟨x2, rfl, hkk.trans (congrArg (kby boxB key q ^^^ ·) hX.2.2.1)⟩
                  · exact ⟨x3, rfl, hkk.trans (congrArg (kby boxB key q ^^^ ·) hX.2.2.2)⟩
                obtain ⟨y, cy, hy⟩ := hyk
                have hq1 : IntKind.i64.wrap ((I : Int) - 16) = ((4 * m : Nat) : Int) := by rw [IntKind.wrap_i64]; omega
                have hq2' : IntKind.i64.wrap (((4 * m : Nat) : Int) + (k : Int)) = (q : Int) := by rw [IntKind.wrap_i64]; omega
                obtain ⟨m4, hm4⟩ : ∃ q, q = 4 * m := ⟨_, rfl⟩
                rw [← hm4] at hq1 hq2'
                obtain ⟨N, hN⟩ : ∃ N, N = I + k := ⟨_, rfl⟩
                have hNI : (N : Int) ≤ 200 := by omega
                have hqN : (q : Int) < (N : Int) := by omega
                have hN63 : N ≤ 200 := by omega
                rw [← hN] at H hy hce ⊢
                have HT : Kp _ := ⟨kbl_succ boxB key N⟩
                rw [hy] at HT
                have HNk : Kp (N + 1 = I + (k + 1)) := ⟨by omega⟩
                generalize kby boxB key q = x at *
                have hv := i64_xor8 x y
                have HW2 : Kp _ := ⟨HW.out.drew⟩
                have hszr := Nat.le_trans hle0 hB.size
                have hgr := HW.out.lt
                clear hq hm4 hN hII hy
                have cq2 : Two wr.drew ⟨ge, q, none⟩ ⟨gw, k, none⟩ (.int .i64 (x.toNat : Int)) (.int .i64 (y.toNat : Int)) := ⟨cq, cy⟩
                have q1 : ∀ W, Two W ⟨ge, q, none⟩ ⟨gw, k, none⟩ (.int .i64 (x.toNat : Int)) (.int .i64 (y.toNat : Int)) → W.cell? ⟨ge, q, none⟩ = some (.int .i64 (x.toNat : Int)) := fun W h => h.a
                have q2 : ∀ W, Two W ⟨ge, q, none⟩ ⟨gw, k, none⟩ (.int .i64 (x.toNat : Int)) (.int .i64 (y.toNat : Int)) → W.cell? ⟨gw, k, none⟩ = some (.int .i64 (y.toNat : Int)) := fun W h => h.b
                have hqN2 : q < N := by omega
                have hced : ge < wr.drew.heap.size := hle
                have hgrd : gw < wr.drew.heap.size := hgr
                clear cq cy
                go_wp2_with fail
                refine wp_region_held_drew (S := fun W => Two W ⟨ge, q, none⟩ ⟨gw, k, none⟩ (.int .i64 (x.toNat : Int)) (.int .i64 (y.toNat : Int))) (by kernel_rfl) (cq2) (fun hHeld => ?_)
                refine wpAnyH_take (i := 0) (oi := ⟨some 89, _, _, _, _, _⟩) (v := ?_) rfl (by kernel_rfl) (by kernel_rfl) (by kernel_rfl) (fun _ _ _ h => h) (Or.inl ⟨by rfl, by intro w hSw; go_simp; try rfl⟩) (by assumption) ?_
                try simp only [Act.put, List.setIfInBounds_toArray, List.set_cons_zero, List.set_cons_succ]
                refine wpAnyH_take (i := 1) (oi := ⟨some 90, _, _, _, _, _⟩) (v := ?_) rfl (by kernel_rfl) (by kernel_rfl) (by kernel_rfl) (fun _ _ _ h => h) (Or.inl ⟨by rfl, by intro w hSw; go_simp; try rfl⟩) (by assumption) ?_
                try simp only [Act.put, List.setIfInBounds_toArray, List.set_cons_zero, List.set_cons_succ]
                refine wpAnyH_take (i := 2) (oi := ⟨some 91, _, _, _, _, _⟩) (v := ?_) rfl (by kernel_rfl) (by kernel_rfl) (by kernel_rfl) (fun _ _ _ h => h) (Or.inl ⟨by rfl, by intro w hSw; go_simp; try rfl⟩) (by assumption) ?_
                try simp only [Act.put, List.setIfInBounds_toArray, List.set_cons_zero, List.set_cons_succ]
                refine wpAnyH_take (i := 3) (oi := ⟨some 92, _, _, _, _, _⟩) (v := ?_) rfl (by kernel_rfl) (by kernel_rfl) (by kernel_rfl) (fun _ _ _ h => h) (Or.inl ⟨by rfl, by intro w hSw; go_simp; try rfl⟩) (by assumption) ?_
                try simp only [Act.put, List.setIfInBounds_toArray, List.set_cons_zero, List.set_cons_succ]
                refine wpAnyH_take (i := 4) (oi := ⟨some 93, _, _, _, _, _⟩) (v := ?_) rfl (by kernel_rfl) (by kernel_rfl) (by kernel_rfl) (fun _ _ _ h => h) (Or.inl ⟨by rfl, by intro w hSw; go_simp; try rfl⟩) (by assumption) ?_
                try simp only [Act.put, List.setIfInBounds_toArray, List.set_cons_zero, List.set_cons_succ]
                refine wpAnyH_take (i := 5) (oi := ⟨some 94, _, _, _, _, _⟩) (v := ?_) rfl (by kernel_rfl) (by kernel_rfl) (by kernel_rfl) (fun _ _ _ h => h) (Or.inl ⟨by rfl, by intro w hSw; go_simp; try rfl⟩) (by assumption) ?_
                try simp only [Act.put, List.setIfInBounds_toArray, List.set_cons_zero, List.set_cons_succ]
                refine wpAnyH_take (i := 6) (oi := ⟨some 95, _, _, _, _, _⟩) (v := ?_) rfl (by kernel_rfl) (by kernel_rfl) (by kernel_rfl) (fun _ _ _ h => h) (Or.inl ⟨by rfl, by intro w hSw; go_simp; try rfl⟩) (by assumption) ?_
                try simp only [Act.put, List.setIfInBounds_toArray, List.set_cons_zero, List.set_cons_succ]
                refine wpAnyH_take (i := 7) (oi := ⟨some 96, _, _, _, _, _⟩) (v := ?_) rfl (by kernel_rfl) (by kernel_rfl) (by kernel_rfl) (fun _ _ _ h => h) (Or.inl ⟨by rfl, by intro w hSw; go_simp; try rfl⟩) (by assumption) ?_
                try simp only [Act.put, List.setIfInBounds_toArray, List.set_cons_zero, List.set_cons_succ]
                refine wpAnyH_take (i := 8) (oi := ⟨some 97, _, _, _, _, _⟩) (v := ?_) rfl (by kernel_rfl) (by kernel_rfl) (by kernel_rfl) (fun _ _ _ h => h) (Or.inl ⟨by rfl, by intro w hSw; go_simp; try rfl⟩) (by assumption) ?_
                try simp only [Act.put, List.setIfInBounds_toArray, List.set_cons_zero, List.set_cons_succ]
                refine wpAnyH_take (i := 9) (oi := ⟨some 98, _, _, _, _, _⟩) (v := ?_) rfl (by kernel_rfl) (by kernel_rfl) (by kernel_rfl) (fun _ _ _ h => h) (Or.inl ⟨by rfl, by intro w hSw; go_simp; try rfl⟩) (by assumption) ?_
                try simp only [Act.put, List.setIfInBounds_toArray, List.set_cons_zero, List.set_cons_succ]
                refine wpAnyH_take (i := 10) (oi := ⟨some 99, _, _, _, _, _⟩) (v := ?_) rfl (by kernel_rfl) (by kernel_rfl) (by kernel_rfl) (fun _ _ _ h => h) (Or.inl ⟨by rfl, by intro w hSw; go_simp; try rfl⟩) (by assumption) ?_
                try simp only [Act.put, List.setIfInBounds_toArray, List.set_cons_zero, List.set_cons_succ]
                refine wpAnyH_take (i := 11) (oi := ⟨some 100, _, _, _, _, _⟩) (v := ?_) rfl (by kernel_rfl) (by kernel_rfl) (by kernel_rfl) (fun _ _ _ h => h) (Or.inl ⟨by rfl, by intro w hSw; go_simp; try rfl⟩) (by assumption) ?_
                try simp only [Act.put, List.setIfInBounds_toArray, List.set_cons_zero, List.set_cons_succ]
                refine wpAnyH_take (i := 12) (oi := ⟨some 101, _, _, _, _, _⟩) (v := ?_) rfl (by kernel_rfl) (by kernel_rfl) (by kernel_rfl) (fun _ _ _ h => h) (Or.inl ⟨by rfl, by intro w hSw; go_simp; try rfl⟩) (by assumption) ?_
                try simp only [Act.put, List.setIfInBounds_toArray, List.set_cons_zero, List.set_cons_succ]
                refine wpAnyH_ready (rs := [13]) (by kernel_rfl) (by simp) ?_
                refine AllReadyH.cons (o := ⟨some 102, _, _, _, _, _⟩) rfl (fun K hK => ?_) AllReadyH.nil
                go_simp
                refine hK.out _ _ (⟨(((Below.refl _ _).alloc (Nat.le_refl _) _).cell (p := ⟨ge, q, none⟩) hced).trans cq2.a, (((Below.refl _ _).alloc (Nat.le_refl _) _).cell (p := ⟨gw, k, none⟩) hgrd).trans cq2.b⟩) (fun hHeld2 => ?_)
                clear hK K hHeld
                have hHeld := hHeld2
                clear hHeld2
                try simp only [Act.put, List.setIfInBounds_toArray, List.set_cons_zero, List.set_cons_succ]
                refine wpAnyH_ready (rs := [14]) (by kernel_rfl) (by simp) ?_
                refine AllReadyH.cons (o := ⟨some 103, _, _, _, _, _⟩) rfl (fun K hK => ?_) AllReadyH.nil
                refine step_app1 (o := ⟨some 103, _, _, _, _, _⟩) wr.drew rfl elI rfl (.tmp 89) (.tmp 102) rfl b0 _ N _ rfl H.out.drew rfl rfl (by simp only [maxLen]; omega) (by omega) (by simpa using hszr) ?_
                intro v' w52 H' hb' hot hob hkeep
                refine hK.out _ _ ⟨(hkeep ge ce rfl q hqN2).trans cq2.a, (World.cell?_of_block (w := wr.drew) (hot gw HOw.out hgr)).trans cq2.b⟩ (fun hHeld2 => ?_)
                clear hK K hHeld
                have hHeld := hHeld2
                clear hHeld2
                try simp only [Act.put, List.setIfInBounds_toArray, List.set_cons_zero, List.set_cons_succ]
                refine wpAnyH_take (i := 15) (oi := ⟨some 4, _, _, _, _, _⟩) (v := ?_) rfl (by kernel_rfl) (by kernel_rfl) (by kernel_rfl) (fun _ _ _ h => h) (Or.inl ⟨by rfl, by intro w hSw; go_simp; try rfl⟩) (by assumption) ?_
                try simp only [Act.put, List.setIfInBounds_toArray, List.set_cons_zero, List.set_cons_succ]
                refine wpAnyH_done (by kernel_rfl) ?_ _
                skip
                have H2 : Hid (w52.ownsRow b0 3 1 v' (I + (k + 1)) (cellsI (kbl boxB key (I + (k + 1))))) := by
                  show World.ownsRow _ _ _ _ _ _ _
                  rw [← HNk.out, HT.out, cellsI_append]
                  exact H'.out
                have HW3 : Kp (Blk w52 gw 3 (cellsI [x0, x1, x2, x3])) := ⟨⟨(hot gw HOw.out hgr).trans HW2.out.heap⟩⟩
                have HO2 : Kp (v'.ownBlock ≠ some gw) := ⟨by
                  rcases hob with h | ⟨g', h, hl⟩
                  · rw [h]; exact HOw.out
                  · rw [h]; intro e; have e2 := Option.some.inj e; have hgr2 : gw < wr.drew.heap.size := hgr; omega⟩
                have hB' := hB.drew.trans hb'
                clear H H' HT hB hb' hot hob HW HW2 HOw hv q1 q2 hHeld cq2
                go_wp2
                go_roundg g5
                case rel => exact ⟨k + 1, by omega, by go_num, H2, HW3, HO2, hB'⟩
                case measure => omega
    | succ g =>
      have hlt : (j : Int) < 16 := by omega
      have hsz := Nat.le_trans hle0 hB.size
      have hjl : j < key.length := by rw [HKl.out]; omega
      have hcx : wr.cell? ⟨w.heap.size, j, none⟩ = some (.int .u8 ((kby boxB key j).toNat : Int)) := by
        rw [(HK5.out.below hB (by omega)).cell? j, cells8_at key j hjl, kby_low boxB key j (by omega)]
        simp [List.getD, List.getElem?_eq_getElem hjl]
      have HT : Kp _ := ⟨kbl_succ boxB key j⟩
      generalize kby boxB key j = x at *
      have hx8 := x.toNat_lt
      go_wp2_with (at_builtin; refine wpList_app1 elI rfl _ _ rfl b0 _ j _ rfl H.out rfl rfl (by simp only [maxLen]; omega) (by omega) hsz ?_)
      intro v' w' H' hb' _ _
      have H2 : Hid (w'.ownsRow b0 3 1 v' (j + 1) (cellsI (kbl boxB key (j + 1)))) := by
        show World.ownsRow _ _ _ _ _ _ _
        rw [HT.out, cellsI_append]
        exact H'.out
      have hB' := hB.trans hb'
      clear H H' HT hB hb'
      go_wp2
      go_roundg g
      case rel => exact ⟨j + 1, by omega, by go_num, H2, hB'⟩
      case measure => omega
end Go.Proofs.YtckmobpjdpjocaaDoor
