/- The contract of the document's Encode. -/
import Derived.Test.YtaedlaeflliibaaEnE
import Derived.Test.YtaedlaeflliibaaEnS
import Derived.Test.YtaedlaeflliibaaRefPad6
namespace Go.Proofs.Ytaedlaeflliibaa
open Go.RowKit Go.Deep

theorem padL_cons (x : UInt8) (l : List UInt8) (h : l.length ≤ 27) : padL (x :: l) 28 = x :: padL l 27 := by
  unfold padL
  simp only [List.length_cons, List.cons_append]
  rw [show (28 : Int).toNat - (l.length + 1) = (27 : Int).toNat - l.length by omega]
theorem putN_one (n : Nat) : putN n 1 = [UInt8.ofNat n] := rfl
theorem enc1_ref (nm : List UInt8) (k : Nat) (h : nm.length ≤ 27) : enc1 (nm, (k : Int)) = padL (UInt8.ofNat nm.length :: nm) 28 ++ putN k 4 := by
  unfold enc1
  rw [padL_cons _ _ h, putN_one]
  simp
set_option maxRecDepth 100000 in
set_option maxHeartbeats 4000000 in
theorem refencode_any (A : Option Addr) (n c : Nat) (l : List En) (w : World) (ha : Ens w w.heap.size A n c l) :
    Calls Try.prog 14 #[.slice A n c] w fun e w' => ∃ A' n' c', e = .returned (.tuple #[.slice A' n' c', .int .i64 (encC l)]) ∧ Bs w' w'.heap.size A' n' c' (encR l) ∧ Below w.heap.size w w' := by
  have hle := ha.le
  have HI : Kp _ := ⟨ha⟩
  have HL : Kp _ := ⟨ha.len⟩
  have HR : Kp _ := ⟨refright_any A n c l w w.heap.size ha⟩
  clear ha
  cases hr : rightE l with
  | false =>
    rw [hr] at HR
    have HC : Kp (encC l = 2 ∧ encR l = []) := ⟨by unfold encC encR; rw [hr]; exact ⟨rfl, rfl⟩⟩
    rw [HC.out.1, HC.out.2]
    go_enter Try.func14, Try.ntmps14
    go_wp2_with fail
    refine HR.out.mono ?_
    rintro e w1 ⟨rfl, hb1⟩
    go_wp2
    go_ret2
    exact ⟨none, 0, 0, rfl, Bs.zero _ _, hb1 _⟩
  | true =>
    rw [hr] at HR
    have HC : Kp (encC l = 0 ∧ encR l = encL l) := ⟨by unfold encC encR; rw [hr]; exact ⟨rfl, rfl⟩⟩
    rw [HC.out.1, HC.out.2]
    have hall := right_all hr
    have hn5 : n ≤ 560 := by rw [← HL.out]; exact hall.1
    have HOk : Kp (∀ x ∈ l, x.1.length ≤ 27 ∧ 1 ≤ x.2 ∧ x.2 ≤ 65535) := ⟨fun x hx => okE_b (hall.2 x hx)⟩
    clear hall
    go_enter Try.func14, Try.ntmps14
    go_wp2_with fail
    refine HR.out.mono ?_
    rintro e w1 ⟨rfl, hb1'⟩
    have hb1 := hb1' w.heap.size
    have HI1 : Kp _ := ⟨HI.out.next hb1 (Nat.le_refl _)⟩
    have HB1 : Kp _ := ⟨hb1⟩
    have H0 : Kp (encL (l.take 0) = []) := ⟨by simp [encL]⟩
    have HNx : Kp (∀ k (h : k < l.length), encL (l.take (k + 1)) = encL (l.take k) ++ enc1 l[k]) := ⟨fun k h => encL_next h⟩
    have HEnd : Kp (l.take n = l) := ⟨List.take_of_length_le (by rw [HL.out]; exact Nat.le_refl _)⟩
    clear hb1 hb1' HI HR
    go_wp2
    go_loopg [4, 5] n (fun gk v4 v5 wr => ∃ k : Nat, k + gk = n ∧ v5 = .int .i64 k ∧ Kp (wr.ownsRow w1.heap.size 5 1 v4 (32 * k) (cells8 (encL (l.take k)))) ∧ Kp (Below w1.heap.size w1 wr))
    case atStart => exact ⟨0, by omega, rfl, ⟨by rw [H0.out]; exact own_nil _ _ _⟩, ⟨Below.refl _ _⟩⟩
    case round =>
      obtain ⟨k, hkg, rfl, HK, HW⟩ := hrel
      cases gk with
      | zero =>
        have hend : ¬ ((k : Int) < (n : Int)) := by omega
        obtain rfl : k = n := by omega
        rw [HEnd.out] at HK
        obtain ⟨A9, c9, rfl, h9⟩ := Bs.of_own HK.out
        have H9 : Kp _ := ⟨h9⟩
        have HB9 : Kp (Below w.heap.size w wr) := ⟨HB1.out.trans (HW.out.mono HB1.out.size)⟩
        clear h9 HK
        go_wp2
        go_ret2
        exact ⟨_, _, _, rfl, H9.out, HB9.out⟩
      | succ g2 =>
        have hgo : (k : Int) < (n : Int) := by omega
        have hlt : k < n := by omega
        have hkl : k < l.length := by rw [HL.out]; exact hlt
        have HI2 : Kp (∀ W, Below w1.heap.size w1 W → Ens W w1.heap.size A n c l) := ⟨fun W hW => HI1.out.below hW⟩
        obtain ⟨b1, o1, rfl, hb1, c0, c1⟩ := (HI1.out.below HW.out).at hlt
        have hok := HOk.out _ (List.getElem_mem hkl)
        have HN1 : Kp _ := ⟨HNx.out k hkl⟩
        obtain ⟨⟨nm, z⟩, hx⟩ : ∃ x, l[k] = x := ⟨_, rfl⟩
        rw [hx] at c0 c1 hok HN1
        simp only at c0 c1 hok
        obtain ⟨zn, rfl⟩ := Int.eq_ofNat_of_zero_le (show 0 ≤ z by omega)
        have HC0 : Kp (∀ W, Below w1.heap.size w1 W → W.cell? ⟨b1, o1 + k * 2, none⟩ = some (.string ⟨nm.toArray⟩) ∧ W.cell? ⟨b1, o1 + k * 2 + 1, none⟩ = some (.int .i64 (zn : Int))) := ⟨fun W hW =>
          ⟨(hW.cell (p := ⟨b1, _, none⟩) hb1).trans ((HW.out.cell (p := ⟨b1, _, none⟩) hb1).symm.trans c0), (hW.cell (p := ⟨b1, _, none⟩) hb1).trans ((HW.out.cell (p := ⟨b1, _, none⟩) hb1).symm.trans c1)⟩⟩
        have HE1 : Kp _ := ⟨enc1_ref nm zn hok.1⟩
        have h27 := hok.1
        have hsz : (ByteArray.mk nm.toArray).size = nm.length := by simp [ByteArray.size]
        have hlen8 : IntKind.u8.wrap (nm.length : Int) = ((UInt8.ofNat nm.length).toNat : Int) := by
          rw [ofNat_toNat, IntKind.wrap_u8]; omega
        obtain ⟨L8, hL8⟩ : ∃ L8, L8 = UInt8.ofNat nm.length := ⟨_, rfl⟩
        rw [← hL8] at hlen8 HE1
        have hz16 : zn ≤ 65535 := by have := hok.2.2; omega
        clear hx hok hL8
        have hba : Below wr.heap.size wr (wr.alloc (.cells #[.int .u8 (L8.toNat : Int)] 5)) := (Below.refl _ _).alloc (Nat.le_refl _) _
        obtain ⟨d0, d1⟩ := HC0.out _ (HW.out.trans (hba.mono HW.out.size))
        have HR5 : Kp _ := ⟨own_of_full (base := wr.heap.size) (Blk.new wr 5 [.int .u8 (L8.toNat : Int)]).heap (Nat.le_refl _) (by decide : 1 ≤ maxLen) (rfl : ([.int .u8 (L8.toNat : Int)] : List Value).length = 1)⟩
        have HB5 : Kp _ := ⟨hba⟩
        have HS5 : Kp ((wr.alloc (.cells #[.int .u8 (L8.toNat : Int)] 5)).heap.size = wr.heap.size + 1) := ⟨by simp⟩
        obtain ⟨G, hG⟩ : ∃ G, G = wr.heap.size := ⟨_, rfl⟩
        have HGw : Kp (w1.heap.size ≤ G) := ⟨by rw [hG]; exact HW.out.size⟩
        have HGe : Kp (G = wr.heap.size) := ⟨hG⟩
        have hm27 : nm.length ≤ maxLen := by simp only [maxLen]; omega
        clear hba c1
        go_wp2_with (with_reducible refine wpList_bytesOf (o := ⟨some 30, _, _, _, _, _⟩) (l := nm) (by kernel_rfl) el8.ty (by kernel_rfl) rfl _ rfl rfl hm27 ?_)
        rw [← hG]
        rw [← hG] at HR5 HB5 HS5
        generalize wr.alloc (.cells #[.int .u8 (L8.toNat : Int)] 5) = W5 at *
        intro c6 w6 hc6 hcm6 hb6 hs6
        have hb6' : Below W5.heap.size W5 w6 := by rw [HS5.out]; exact hb6
        have HS6 : Kp _ := ⟨Came.bs hc6 (by omega) hcm6⟩
        have HR6 : Kp _ := ⟨own_below HR5.out hb6'⟩
        have HB6 : Kp (Below G wr w6) := ⟨HB5.out.trans (hb6'.mono (by rw [HS5.out]; omega))⟩
        have HG6 : Kp (G ≤ w6.heap.size) := ⟨by omega⟩
        clear hc6 hcm6 hb6 hb6' hs6 HR5 HB5 HS5 d0 d1 c0 hG
        go_wp2_with (at_builtin; refine wpList_app el8 rfl _ _ rfl G _ 1 [.int .u8 (L8.toNat : Int)] rfl HR6.out _ nm.length c6 (cells8 nm) rfl (by rw [cells8_length]) (fun h => by cases h) HS6.out.news (cells8_one _) (by simp only [maxLen]; omega) (by omega) HG6.out ?_)
        intro v7 w7 hown7 hg7 _
        obtain ⟨A7, c7, rfl, hbs7⟩ := Bs.of_own (l := L8 :: nm) (n := 1 + nm.length) (by simpa [cells8] using hown7)
        have HS7 : Kp _ := ⟨hbs7⟩
        have HB7 : Kp (Below G wr w7) := ⟨HB6.out.trans (below_of_grown HR6.out HG6.out hg7)⟩
        have HP7 : Kp _ := ⟨refpad_any A7 (1 + nm.length) c7 28 (L8 :: nm) w7 hbs7 (by omega) (by omega)⟩
        have HPl : Kp ((padL (L8 :: nm) 28).length = 28) := ⟨by rw [padL_length]; simp; omega⟩
        rw [HPl.out] at HP7
        clear hown7 hg7 hbs7 HR6 HB6 HG6 HS6
        go_wp2_with fail
        refine HP7.out.mono ?_
        rintro e w8 ⟨v8, rfl, hown8, hb8⟩
        obtain ⟨A8, c8, rfl, hbs8⟩ := Bs.of_own hown8
        have HS8 : Kp _ := ⟨hbs8⟩
        have HB8 : Kp (Below G wr w8) := ⟨HB7.out.trans (hb8.mono (by have h1 := HB7.out.size; have := HGe.out; omega))⟩
        have HO8 : Kp _ := ⟨own_below HK.out (by rw [← HGe.out]; exact HB8.out : Below wr.heap.size wr w8)⟩
        have HW8 : Kp (Below w1.heap.size w1 w8) := ⟨HW.out.trans (HB8.out.mono HGw.out)⟩
        clear hown8 hb8 hbs8 HS7 HB7 HP7 HK HB8
        go_wp2_with (at_builtin; refine wpList_app el8 rfl _ _ rfl w1.heap.size _ (32 * k) _ rfl HO8.out A8 28 c8 (cells8 (padL (L8 :: nm) 28)) rfl (by rw [cells8_length, HPl.out]) (fun h => by have h1 := HS8.out.nil h; have h2 := HS8.out.cap; omega) HS8.out.news (cells8_one _) (by simp only [maxLen]; omega) (by omega) HW8.out.size ?_)
        intro v9 w9 hown9 hg9 _
        have HO9 : Kp (w9.ownsRow w1.heap.size 5 1 v9 (32 * k + 28) (cells8 (encL (l.take k) ++ padL (L8 :: nm) 28))) := ⟨by rw [cells8_append]; exact hown9⟩
        have HW9 : Kp (Below w1.heap.size w1 w9) := ⟨HW8.out.trans (below_of_grown HO8.out HW8.out.size hg9)⟩
        obtain ⟨_, cz⟩ := HC0.out w9 HW9.out
        have hcz : IntKind.u64.wrap (zn : Int) = (zn : Int) := by rw [IntKind.wrap_u64]; omega
        have HPu : Kp (∀ W, _) := ⟨fun W => refput_any zn 4 W (by omega)⟩
        clear hown9 hg9 HO8 HW8 HS8
        go_wp2_with fail
        refine (HPu.out _).mono ?_
        rintro e w10 ⟨v10, rfl, hown10, hb10⟩
        rw [show (min (max (4 : Int) 0) 8).toNat = 4 from rfl] at hown10
        obtain ⟨A10, c10, rfl, hbs10⟩ := Bs.of_own hown10
        have HS10 : Kp _ := ⟨hbs10⟩
        have HO10 : Kp _ := ⟨own_below HO9.out hb10⟩
        have HW10 : Kp _ := ⟨HW9.out.trans (hb10.mono HW9.out.size)⟩
        clear hown10 hb10 hbs10 HO9 HW9 HPu cz
        go_wp2_with (at_builtin; refine wpList_app el8 rfl _ _ rfl w1.heap.size _ (32 * k + 28) _ rfl HO10.out A10 4 c10 (cells8 (putN zn 4)) rfl (by rw [cells8_length, putN_length]) (fun h => by have h1 := HS10.out.nil h; have h2 := HS10.out.cap; omega) HS10.out.news (cells8_one _) (by simp only [maxLen]; omega) (by omega) HW10.out.size ?_)
        intro v11 w11 hown11 hg11 _
        have HO11 : Kp (w11.ownsRow w1.heap.size 5 1 v11 (32 * (k + 1)) (cells8 (encL (l.take (k + 1))))) := ⟨by
          rw [HN1.out, HE1.out, ← List.append_assoc, cells8_append, show 32 * (k + 1) = 32 * k + 28 + 4 by omega]; exact hown11⟩
        have HW11 : Kp (Below w1.heap.size w1 w11) := ⟨HW10.out.trans (below_of_grown HO10.out HW10.out.size hg11)⟩
        clear hown11 hg11 HO10 HW10 HS10
        go_wp2
        go_roundg g2
        case measure => omega
        case rel => exact ⟨k + 1, by omega, by go_num, HO11, HW11⟩
end Go.Proofs.Ytaedlaeflliibaa
