/- The contracts of package aes's blend and makeBox. -/
import Derived.Test.YtleplilcpcgacaaAesBox
import Derived.Test.YtleplilcpcgacaaIndex
import Derived.Test.YtleplilcpcgacaaBuild
namespace Go.Proofs.Ytleplilcpcgacaa
open Go.RowKit

def zero256 : List Value := List.replicate 256 (.int .u8 0)
def zero255 : List Value := List.replicate 255 (.int .u8 0)
theorem tyTable : Ty Try.prog 57 zero256 := ⟨by kernel_rfl⟩
theorem rwTable : Rw Try.prog 57 (.array 256 5) 256 := ⟨by kernel_rfl, rfl, by kernel_rfl⟩
theorem tyPow : Ty Try.prog 74 zero255 := ⟨by kernel_rfl⟩
theorem rwPow : Rw Try.prog 74 (.array 255 5) 255 := ⟨by kernel_rfl, rfl, by kernel_rfl⟩
theorem plain8 : Plain1 Try.prog 5 := ⟨by kernel_rfl, by kernel_rfl⟩
theorem table_built (n : Nat) : Try.prog.built 57 [(0, .int .u8 (n : Int))] = some ((Value.int .u8 (n : Int)) :: List.replicate 255 (.int .u8 0)).toArray := by kernel_rfl
theorem mixIt_go (v : UInt8) (n : Nat) : bits .xor .u8 ((mixIt v n).toNat : Int) (((v.toNat * 2 ^ (n + 1) % 256 ||| v.toNat / 2 ^ (8 - (n + 1)) : Nat)) : Int) = ((mixIt v (n + 1)).toNat : Int) := by
  rw [t8_val, u8_xor']; rfl

/-- the powers of 3 -/
def pw : Nat → UInt8
  | 0 => 1
  | k + 1 => pw k ^^^ xt (pw k)
def tabV (k : Nat) : UInt8 := mixIt (pw ((255 - k) % 255)) 4
/-- the table, of which k powers are filled in -/
def tabK : Nat → List UInt8
  | 0 => mixIt 0 4 :: List.replicate 255 0
  | k + 1 => (tabK k).set (pw k).toNat (tabV k)
theorem tabK_length : ∀ k, (tabK k).length = 256
  | 0 => by show (mixIt 0 4 :: List.replicate 255 0).length = 256; rw [List.length_cons, List.length_replicate]
  | k + 1 => by rw [tabK, List.length_set]; exact tabK_length k
theorem tabK_set (k : Nat) : (cells8 (tabK k)).set (pw k).toNat (.int .u8 ((tabV k).toNat : Int)) = cells8 (tabK (k + 1)) := by
  rw [tabK]; unfold cells8; rw [List.map_set]
theorem tab_done : tabK 255 = boxB := by decide +kernel
theorem tabK_none : cells8 (tabK 0) = (Value.int .u8 ((mixIt 0 4).toNat : Int)) :: List.replicate 255 (.int .u8 0) := by
  show cells8 (mixIt 0 4 :: List.replicate 255 0) = _
  unfold cells8
  rw [List.map_cons, List.map_replicate]; rfl

set_option maxHeartbeats 1000000 in
theorem blend_any (v : UInt8) (w : World) : Calls Try.prog 37 #[.int .u8 v.toNat] w fun e w' => e = .returned (.int .u8 (mixIt v 4).toNat) ∧ Below w.heap.size w w' := by
  go_enter Try.func37, Try.ntmps37
  have h99 : bits .xor .u8 (v.toNat : Int) 99 = ((mixIt v 0).toNat : Int) := u8_xor' v 99
  go_wp2
  clear h99
  go_loopg [3, 7] 4 (fun g3 vm vn wx => ∃ n : Nat, n + g3 = 4 ∧ vn = .int .i64 n ∧ vm = .int .u8 (mixIt v n).toNat ∧ Below w.heap.size w wx)
  case atStart => exact ⟨0, by omega, rfl, rfl, Below.refl _ _⟩
  case round =>
    obtain ⟨n, hn, rfl, rfl, hb⟩ := hrel
    cases gk with
    | zero =>
      obtain rfl : n = 4 := by omega
      obtain ⟨x, hx⟩ : ∃ x, x = mixIt v 4 := ⟨_, rfl⟩
      have HX : Kp _ := ⟨hx⟩
      rw [← hx]
      clear hx
      go_wp2
      go_ret
      exact ⟨by rw [← HX.out]; rfl, hb⟩
    | succ g4 =>
      have hnI : (n : Int) < 4 := by omega
      have HX : Kp _ := ⟨mixIt_go v n⟩
      obtain ⟨m, hm⟩ : ∃ m : Nat, m = n + 1 := ⟨_, rfl⟩
      have hmI : (n : Int) + 1 = (m : Int) := by omega
      rw [← hm] at HX
      have h17 : 1 ≤ m ∧ m ≤ 7 := by omega
      have HM : Kp _ := ⟨hm⟩
      clear hm
      go_wp2_with fail
      refine (turn8_any v m _ h17.1 h17.2).mono ?_
      rintro e w' ⟨rfl, q, rfl⟩
      have hxx := HX.out
      generalize (v.toNat * 2 ^ m % 256 ||| v.toNat / 2 ^ (8 - m) : Nat) = tt at *
      go_wp2
      go_roundg g4
      case rel => exact ⟨n + 1, by omega, by go_num, by rw [← HM.out], below_drewN' hb q⟩
      case measure => omega

theorem fillU_at (f : Nat → UInt8) (n k : Nat) (h : k < n) : (cells8 (fillU f n n))[k]? = some (.int .u8 ((f k).toNat : Int)) := by
  rw [fillU_done]; unfold cells8; rw [List.map_map, List.getElem?_map, List.getElem?_range h]; rfl
theorem tab_parts (k : Nat) (_h : k < 255) : ∃ (m : Nat) (p q y : UInt8), m < 255 ∧ (255 - (k : Int)).tmod 255 = (m : Int) ∧ Kp (pw k = p) ∧ Kp (pw m = q) ∧ Kp (mixIt q 4 = y) ∧ Kp (tabV k = y) :=
  ⟨(255 - k) % 255, pw k, pw ((255 - k) % 255), tabV k, Nat.mod_lt _ (by decide), by
    rw [Int.tmod_eq_emod_of_nonneg (by omega)]; omega, ⟨rfl⟩, ⟨rfl⟩, ⟨rfl⟩, ⟨rfl⟩⟩

set_option maxRecDepth 100000 in
set_option maxHeartbeats 4000000 in
theorem makeBox_any (w : World) : Calls Try.prog 29 #[] w fun e w' => e = .returned (.agg (cells8 boxB).toArray) ∧ Below w.heap.size w w' := by
  go_enter Try.func29, Try.ntmps29
  go_wp2_with (with_reducible refine wpList_alloc (o := ⟨some 0, _, _, _, _, _⟩) tyTable rfl rfl ?_)
  intro w1 hk1 hb1 hs1
  have HK1 : Kp _ := ⟨hk1⟩
  clear hk1 hs1
  go_wp2_with (with_reducible refine wpList_alloc (o := ⟨some 1, _, _, _, _, _⟩) tyPow rfl rfl ?_)
  intro w2 hk2 hb2 hs2
  have HR2 : Kp _ := ⟨HK1.out.below hb2 HK1.out.lt⟩
  have HP2 : Kp (Blk w2 w1.heap.size 74 (cells8 (fillU pw 255 0))) := ⟨by rw [fillU_none]; exact hk2⟩
  have hB2 : Below w.heap.size w w2 := hb1.trans (hb2.mono hb1.size)
  obtain ⟨g, hg⟩ : ∃ g, g = w1.heap.size := ⟨_, rfl⟩
  rw [← hg] at HP2 ⊢
  have hgg : w.heap.size < g := by rw [hg]; exact HK1.out.lt
  clear hk2 hb1 hb2 hs2 HK1 hg
  go_wp2
  go_loopg [2, 7] 255 (fun gk vp vi wr => ∃ k : Nat, k + gk = 255 ∧ vi = .int .i64 k ∧ vp = .int .u8 (pw k).toNat ∧ Kp (Blk wr g 74 (cells8 (fillU pw 255 k))) ∧ Only g w2 wr)
  case atStart => exact ⟨0, by omega, rfl, rfl, HP2, Only.refl _ _⟩
  case round =>
    clear HP2
    obtain ⟨k, hk, rfl, rfl, HB, ho⟩ := hrel
    cases gk with
    | succ g2 =>
      have hkI : (k : Int) < 255 := by omega
      have hlt : k < (cells8 (fillU pw 255 k)).length := by rw [cells8_length, fillU_length]; omega
      have hco := HB.out.cell (i := k) hlt
      have hfo := HB.out.frozen k
      have HSet : Kp _ := ⟨fillU_set pw 255 k⟩
      generalize (cells8 (fillU pw 255 k))[k]'_ = q at hco
      have HN : Kp (pw (k + 1) = pw k ^^^ xt (pw k)) := ⟨rfl⟩
      generalize pw k = x at *
      clear hlt
      go_wp2_with (go_at_call 28; refine (double_any _ _).mono ?_; rintro e w' ⟨rfl, rfl⟩)
      have hxx : bits .xor .u8 (x.toNat : Int) ((xt x).toNat : Int) = ((x ^^^ xt x).toNat : Int) := u8_xor' x (xt x)
      go_wp2
      go_roundg g2
      case rel => exact ⟨k + 1, by omega, by go_num, by rw [HN.out, hxx], ⟨by have h3 := HB.out.set k (.int .u8 (x.toNat : Int)); rw [HSet.out] at h3; exact h3⟩, ho.trans (Only.setCell wr ⟨g, k, none⟩ _)⟩
      case measure => omega
    | zero =>
      obtain rfl : k = 255 := by omega
      have hB3 : Below w.heap.size w wr := hB2.trans (ho.below (Nat.le_of_lt hgg))
      have HR3 : Kp _ := ⟨HR2.out.only ho (by omega)⟩
      have HPat : Kp (∀ k, k < 255 → (cells8 (fillU pw 255 255))[k]? = some (.int .u8 ((pw k).toNat : Int))) := ⟨fillU_at pw 255⟩
      have HPl : Kp ((cells8 (fillU pw 255 255)).length = 255) := ⟨by rw [cells8_length, fillU_length]⟩
      generalize cells8 (fillU pw 255 255) = PL at *
      have HZ : Kp (zero256.length = 256) := ⟨by unfold zero256; exact List.length_replicate⟩
      clear hB2 HR2 ho
      generalize pw 255 = p9
      go_wp2_with fail
      have hcall := blend_any 0 wr
      refine hcall.mono ?_
      rintro e w3 ⟨rfl, hb3⟩
      have hB4 := hB3.trans (hb3.mono hB3.size)
      have HP4 : Kp _ := ⟨HB.out.below hb3 HB.out.lt⟩
      have HR4 : Kp _ := ⟨HR3.out.below hb3 HR3.out.lt⟩
      have hg3 : g < w3.heap.size := Nat.lt_of_lt_of_le HB.out.lt hb3.size
      have HT0 : Kp _ := ⟨tabK_none⟩
      generalize mixIt 0 4 = y0 at *
      have HTB : Kp _ := ⟨table_built y0.toNat⟩
      have HTl : Kp ((cells8 (tabK 0)).length = 256) := ⟨by rw [cells8_length, tabK_length]⟩
      rw [← HT0.out] at HTB
      have hone := cells8_one (tabK 0)
      obtain ⟨T0, hT0⟩ : ∃ T, T = cells8 (tabK 0) := ⟨_, rfl⟩
      have HT1 : Kp _ := ⟨hT0⟩
      rw [← hT0] at HT0 HTB HTl hone
      clear hT0
      clear hB3 hb3 HB HR3
      go_wp2_with (first
        | (refine wpList_build1 (o := ⟨some 19, _, _, _, _, _⟩) rfl 0 (.tmp 18) rfl rfl HTB.out ?_)
        | (with_reducible refine wpList_alloc (o := ⟨some 4, _, _, _, _, _⟩) tyTable rfl rfl ?_))
      intro w4 hk4 hb4 hs4
      have HK4 : Kp _ := ⟨hk4⟩
      have HP5 : Kp _ := ⟨HP4.out.below hb4 HP4.out.lt⟩
      have HR5 : Kp _ := ⟨HR4.out.below hb4 HR4.out.lt⟩
      have hB5 := hB4.trans (hb4.mono hB4.size)
      clear hk4 hb4 hs4 HP4 HR4 hB4
      obtain ⟨gt, hgt⟩ : ∃ g, g = w3.heap.size := ⟨_, rfl⟩
      rw [← hgt] at HK4 hg3 ⊢
      clear hgt
      go_wp2_with (refine wpList_storeAll (o := ⟨none, _, _, _, _, _⟩) (vs := T0) rwTable rfl (.tmp 4) (.tmp 19) rfl rfl HK4.out HZ.out HTl.out hone rfl ?_)
      intro w5 hk5 ho5
      have hg5 : w.heap.size < gt := by omega
      have HK5 : Kp (Blk w5 gt 57 T0) := ⟨hk5⟩
      have HP6 : Kp _ := ⟨HP5.out.only ho5 (by omega)⟩
      have HR6 : Kp _ := ⟨HR5.out.only ho5 (by omega)⟩
      have hB6 := hB5.trans (ho5.below (Nat.le_of_lt hg5))
      clear hk5 ho5 HK4 HP5 HR5 hB5 HTB hone HTl
      go_wp2_with (with_reducible refine wpList_loadAll (o := ⟨some 20, _, _, _, _, _⟩) rwPow rfl (.tmp 1) rfl rfl HP6.out HPl.out ?_)
      go_wp2
      go_loopg [21] 255 (fun gk vi wr => ∃ k : Nat, k + gk = 255 ∧ vi = .int .i64 k ∧ Kp (Blk wr gt 57 (cells8 (tabK k))) ∧ Kp (Blk wr g 74 PL) ∧ Kp (Blk wr w.heap.size 57 zero256) ∧ Below w.heap.size w wr)
      case atStart => exact ⟨0, by omega, rfl, ⟨by rw [← HT1.out]; exact HK5.out⟩, HP6, HR6, hB6⟩
      case round =>
        clear HK5 HP6 HR6 hB6
        obtain ⟨k, hk, rfl, HB, HP, HR, hB⟩ := hrel
        cases gk with
        | zero =>
          obtain rfl : k = 255 := by omega
          have HD : Kp (Blk wr gt 57 (cells8 boxB)) := ⟨by rw [← tab_done]; exact HB.out⟩
          have HLen : Kp ((cells8 boxB).length = 256) := ⟨by rw [cells8_length, boxB_length]⟩
          generalize hL : boxB = L at *
          have HL : Kp _ := ⟨hL⟩
          clear HB hL
          go_wp2_with (first
            | (with_reducible refine wpList_loadAll (o := ⟨some 34, _, _, _, _, _⟩) rwTable rfl (.tmp 4) rfl rfl HD.out HLen.out ?_)
            | (with_reducible refine wpList_storeAll (o := ⟨none, _, _, _, _, _⟩) (vs := cells8 L) rwTable rfl (.tmp 0) (.tmp 34) rfl rfl HR.out HZ.out HLen.out (cells8_one _) rfl ?_))
          intro w7 hk7 ho7
          have HK7 : Kp _ := ⟨hk7⟩
          clear hk7
          go_wp2
          exact ret_arr rfl rwTable rfl HK7.out HLen.out rfl ⟨by rw [HL.out], hB.trans (ho7.below (Nat.le_refl _))⟩
        | succ g2 =>
          have hkI : (k : Int) < 255 := by omega
          have hpk := HPat.out k (by omega)
          obtain ⟨m, p, q, y, hm, hrem, HPp, HQ, HY, HV⟩ := tab_parts k (by omega)
          have hpm := HPat.out m hm
          rw [HPp.out] at hpk
          rw [HQ.out] at hpm
          have hPc : wr.cell? ⟨g, m, none⟩ = some (.int .u8 (q.toNat : Int)) := by rw [HP.out.cell?, hpm]
          have hpl := p.toNat_lt
          have hlt : p.toNat < (cells8 (tabK k)).length := by rw [cells8_length, tabK_length]; omega
          have hmI : (m : Int) < 255 := by omega
          have HSet : Kp _ := ⟨tabK_set k⟩
          rw [HPp.out, HV.out] at HSet
          clear hpm hm
          go_wp2_with (with_reducible refine wpList_index (o := ⟨some 24, _, _, _, _, _⟩) rwPow.ty plain8 rfl (.tmp 20) (.tmp 21) rfl rfl rfl k rfl (by omega) hpk ?_)
          have hcall := blend_any q wr
          rw [HY.out] at hcall
          refine hcall.mono ?_
          rintro e w7 ⟨rfl, hb7⟩
          have HB7 : Kp _ := ⟨HB.out.below hb7 HB.out.lt⟩
          have HP7 : Kp _ := ⟨HP.out.below hb7 HP.out.lt⟩
          have HR7 : Kp _ := ⟨HR.out.below hb7 HR.out.lt⟩
          have hB7 := hB.trans (hb7.mono hB.size)
          clear HB HP HR hB hb7 hPc hpk hrem
          have hco := HB7.out.cell (i := p.toNat) hlt
          have hfo := HB7.out.frozen p.toNat
          generalize (cells8 (tabK k))[p.toNat]'_ = qq at hco
          have hpI : (p.toNat : Int) < 256 := by omega
          go_wp2
          go_roundg g2
          case rel =>
            refine ⟨k + 1, by omega, by go_num, ⟨?_⟩, ⟨HP7.out.other (by show g ≠ gt; omega) _⟩, ⟨HR7.out.other (by show w.heap.size ≠ gt; omega) _⟩, hB7.setCell (by show w.heap.size ≤ gt; omega) _⟩
            have h3 := HB7.out.set p.toNat (.int .u8 (y.toNat : Int)); rw [HSet.out] at h3; exact h3
          case measure => omega
end Go.Proofs.Ytleplilcpcgacaa
