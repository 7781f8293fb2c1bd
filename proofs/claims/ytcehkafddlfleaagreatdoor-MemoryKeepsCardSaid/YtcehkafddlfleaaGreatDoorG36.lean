/-  -/
import Derived.Test.YtcehkafddlfleaaGreatDoorG02
import Derived.Test.YtcehkafddlfleaaGreatDoorG32
namespace Go.Proofs.YtcehkafddlfleaaGreatDoor
open Go.RowKit
theorem num_lt (l : List UInt8) : getN (l.take 8) < 18446744073709551616 := getN_lt8 _ (by simp; omega)
theorem blk_lt (l : List UInt8) : getN (l.take 4) < 4294967296 := by
 have h := getN_lt (l.take 4)
 have h2 : (l.take 4).length ≤ 4 := by simp; omega
 have h3 : 256 ^ (l.take 4).length ≤ 256 ^ 4 := Nat.pow_le_pow_right (by omega) h2
 exact Nat.lt_of_lt_of_le h h3
theorem readL_eq (l : List UInt8) (b G K : Nat) (hb : getN ((l.drop 12).take 4) = b) (hG : (b + 7) / 8 = G) (hK : K = min ((b + 15) / 16) ((l.drop (16 + G)).length / 32)) :
  readL l = ⟨getN ((l.drop 4).take 8), (b : Int), (l.drop 16).take G, cutsL (l.drop (16 + G)) K⟩ := by
 subst hK hG hb
 unfold readL
 simp only [groups8, parts16]
theorem Bs.rng {w : World} {B b o n c : Nat} {l : List UInt8} (h : Bs w B (some ⟨b, o, none⟩) n c l) : w.rangeAt b o (cells8 l) := by
 intro j v hv
 obtain ⟨hj, rfl⟩ := cells8_some hv
 have h1 := h.news _ rfl j _ (cells8_at l j hj)
 rwa [Addr.add_lit] at h1
theorem Bs.over' {w w' : World} {B g : Nat} {t : TypeId} {A A2 D : Option Addr} {n c num n2 c2 m e : Nat} {blk : Int} {l : List UInt8} (h : Bs w B A n c l) (ho : Only g w w') (hk : Blk w g t (rcL num blk A2 n2 c2 D m e)) : Bs w' B A n c l :=
 h.grown (g := some g) (fun k hk2 _ => ho.block k (fun e => hk2 (by rw [e]))) (h.notrc hk)
set_option maxRecDepth 100000 in
set_option maxHeartbeats 8000000 in
theorem read_any (A : Option Addr) (n c : Nat) (l : List UInt8) (w : World) (ha : Bs w w.heap.size A n c l) (hn : n ≤ 1000000) :
  Calls Tryz.prog 205 #[.slice A n c] w fun x w' => ∃ A' n' c' D m e, x = .returned (rcV (readL l) A' n' c' D m e) ∧ RsN w.heap.size w' A' n' c' D m e (readL l) ∧ n' ≤ n ∧ m * 32 ≤ n ∧ Below w.heap.size w w' := by
 have HA : Kp _ := ⟨ha⟩
 have HN : Kp (n ≤ 1000000) := ⟨hn⟩
 have HLn : Kp (l.length = n) := ⟨ha.len⟩
 obtain ⟨num, hnum⟩ : ∃ x, x = getN ((l.drop 4).take 8) := ⟨_, rfl⟩
 obtain ⟨b, hb⟩ : ∃ x, x = getN ((l.drop 12).take 4) := ⟨_, rfl⟩
 obtain ⟨G, hG⟩ : ∃ G, (b + 7) / 8 = G := ⟨_, rfl⟩
 obtain ⟨M, hM⟩ : ∃ M, (b + 15) / 16 = M := ⟨_, rfl⟩
 obtain ⟨rs, hrs⟩ : ∃ x, x = l.drop (16 + G) := ⟨_, rfl⟩
 obtain ⟨Q, hQ⟩ : ∃ Q, rs.length / 32 = Q := ⟨_, rfl⟩
 obtain ⟨K, hK⟩ : ∃ K, K = min M Q := ⟨_, rfl⟩
 have HNum : Kp (getN ((l.drop 4).take 8) = num ∧ num < 18446744073709551616) := ⟨hnum.symm, by rw [hnum]; exact num_lt _⟩
 have HBlk : Kp (getN ((l.drop 12).take 4) = b ∧ b < 4294967296) := ⟨hb.symm, by rw [hb]; exact blk_lt _⟩
 have HGG : Kp ((b + 7) / 8 = G) := ⟨hG⟩
 have HMM : Kp ((b + 15) / 16 = M) := ⟨hM⟩
 have HRs : Kp (l.drop (16 + G) = rs) := ⟨hrs.symm⟩
 have HQQ : Kp (rs.length / 32 = Q) := ⟨hQ⟩
 have HKK : Kp (K = min M Q) := ⟨hK⟩
 have HRead : Kp (readL l = ⟨num, (b : Int), (l.drop 16).take G, cutsL rs K⟩) := ⟨by rw [readL_eq l b G K hb.symm hG (by rw [← hrs, hK, ← hM, ← hQ]), ← hnum, ← hrs]⟩
 have HWide : Kp (∀ k, k ≤ K → ∀ d ∈ cutsL rs k, d.length = 32) := ⟨fun k hk => cutsL_wide _ _ (by omega)⟩
 clear ha hn hnum hb hG hM hrs hQ hK
 go_enter Tryz.func205, Tryz.ntmps205
 go_wp2_with (with_reducible refine wpList_alloc (o := ⟨some 2, _, _, _, _, _⟩) tySeal rfl rfl ?_)
 intro w1 hk1 hb1 hs1
 have HKr : Kp _ := ⟨hk1⟩
 have HB1 : Kp _ := ⟨hb1⟩
 clear hk1 hb1 hs1
 go_wp2_with fail
 obtain ⟨w2, hw2⟩ : ∃ x, x = w1.alloc (.cells #[.slice A n c] 29) := ⟨_, rfl⟩
 rw [← hw2]
 obtain ⟨g, hg⟩ : ∃ g, g = w1.heap.size := ⟨_, rfl⟩
 rw [← hg]
 have hb2 : Below w1.heap.size w1 w2 := by rw [hw2]; exact (Below.refl _ _).alloc (Nat.le_refl _) _
 have HR2 : Kp (Rd w2 g w.heap.size A n c l) := ⟨by rw [hw2, hg]; exact ⟨Blk.new w1 _ _, HA.out.below (HB1.out.alloc HB1.out.size _), HB1.out.size⟩⟩
 have HG : Kp (w.heap.size < g ∧ g ≤ w2.heap.size) := ⟨by rw [hg]; exact HKr.out.lt, by rw [hg]; exact hb2.size⟩
 have HKr2 : Kp _ := ⟨HKr.out.below hb2 HKr.out.lt⟩
 have HB2 : Kp (Below w.heap.size w w2) := ⟨HB1.out.trans (hb2.mono HB1.out.size)⟩
 clear hw2 hg hb2 HA HB1 HKr
 refine (cutR_any g w.heap.size A n c l 4 w2 HR2.out HN.out (by omega) : Calls _ _ #[_, _] _ _).mono ?_
 rintro e w3 ⟨F3, m3, f3, A3, n3, c3, rfl, _, _, hr3, hn3, hg3⟩
 have HR3 : Kp _ := ⟨hr3⟩
 have HN3 : Kp (n3 = n - min 4 n) := ⟨hn3⟩
 have HB3 : Kp (Below g w2 w3) := ⟨grown_lo hg3 HG.out.2⟩
 clear hr3 hn3 hg3 HR2
 go_wp2_with fail
 refine (cutR_any g w.heap.size A3 n3 c3 (l.drop 4) 8 w3 HR3.out (by have := HN3.out; have := HN.out; omega) (by omega) : Calls _ _ #[_, _] _ _).mono ?_
 rintro e w4 ⟨F4, m4, f4, A4, n4, c4, rfl, ⟨hbs4, _⟩, hm4, hr4, hn4, hg4⟩
 have HR4 : Kp (Rd w4 g w.heap.size A4 n4 c4 (l.drop 12)) := ⟨by rw [List.drop_drop] at hr4; exact hr4⟩
 have HN4 : Kp (n4 = n3 - min 8 n3) := ⟨hn4⟩
 have HB4 : Kp (Below g w2 w4) := ⟨HB3.out.trans (grown_lo hg4 (by have := HG.out; have := HB3.out.size; omega))⟩
 have HBs4 : Kp _ := ⟨hbs4⟩
 have HM4 : Kp (m4 ≤ 8) := ⟨by omega⟩
 clear hr4 hn4 hg4 hbs4 hm4 HR3 HB3
 go_wp2_with fail
 refine (get_any F4 m4 f4 _ w4 w4.heap.size HBs4.out).mono ?_
 rintro e w5 ⟨rfl, rfl⟩
 have e4 : m4 - 8 = 0 := by have := HM4.out; omega
 rw [e4, List.drop_zero, HNum.out.1]
 clear e4 HBs4
 go_wp2_with fail
 refine (cutR_any g w.heap.size A4 n4 c4 (l.drop 12) 4 w4 HR4.out (by have := HN4.out; have := HN3.out; have := HN.out; omega) (by omega) : Calls _ _ #[_, _] _ _).mono ?_
 rintro e w6 ⟨F6, m6, f6, A6, n6, c6, rfl, ⟨hbs6, _⟩, hm6, hr6, hn6, hg6⟩
 have HR6 : Kp (Rd w6 g w.heap.size A6 n6 c6 (l.drop 16)) := ⟨by rw [List.drop_drop] at hr6; exact hr6⟩
 have HN6 : Kp (n6 = n4 - min 4 n4) := ⟨hn6⟩
 have HB6 : Kp (Below g w2 w6) := ⟨HB4.out.trans (grown_lo hg6 (by have := HG.out; have := HB4.out.size; omega))⟩
 have HBs6 : Kp _ := ⟨hbs6⟩
 have HM6 : Kp (m6 ≤ 4) := ⟨by omega⟩
 clear hr6 hn6 hg6 hbs6 hm6 HR4 HB4
 go_wp2_with fail
 refine (get_any F6 m6 f6 _ w6 w6.heap.size HBs6.out).mono ?_
 rintro e w7 ⟨rfl, rfl⟩
 have e6 : m6 - 8 = 0 := by have := HM6.out; omega
 rw [e6, List.drop_zero, HBlk.out.1]
 have wb : IntKind.i64.wrap (b : Int) = (b : Int) := by rw [IntKind.wrap_i64]; have := HBlk.out.2; omega
 clear e6 HBs6
 go_wp2_with (with_reducible refine wpList_alloc (o := ⟨some 5, _, _, _, _, _⟩) tySeal rfl rfl ?_)
 intro w8 hk8 hb8 hs8
 have HK8 : Kp _ := ⟨hk8⟩
 have HB8 : Kp _ := ⟨hb8⟩
 clear hk8 hb8 hs8
 go_wp2_with (with_reducible refine wpList_storeAll (o := ⟨none, _, _, _, _, _⟩) (vs := rcL num b none 0 0 none 0 0) rwSeal rfl (.tmp 5) (.tmp 17) rfl rfl HK8.out rfl rfl (rcL_one _ _ _ _ _ _ _ _) rfl ?_)
 intro w9 hk9 ho9
 obtain ⟨g5, hg5⟩ : ∃ x, x = w6.heap.size := ⟨_, rfl⟩
 have hb69 : Below w6.heap.size w6 w9 := HB8.out.trans (ho9.below (Nat.le_refl _))
 have HK9 : Kp (Blk w9 w6.heap.size 63 (rcL num b none 0 0 none 0 0)) := ⟨hk9⟩
 have HR9 : Kp _ := ⟨HR6.out.below hb69⟩
 have HB9 : Kp (Below g w2 w9) := ⟨HB6.out.trans (hb69.mono (by have := HG.out; have := HB6.out.size; omega))⟩
 have HG5 : Kp (g < w6.heap.size ∧ w6.heap.size < w9.heap.size) := ⟨HR6.out.var.lt, hk9.lt⟩
 rw [← hg5] at HK9 HG5 ⊢
 clear hk9 ho9 hb69 hg5 HK8 HB8 HB6 HR6 wb
 have c1 : w9.cell? ⟨g5, 1, none⟩ = some (.int .i64 b) := HK9.out.cell? 1
 go_wp2_with fail
 refine (g8_any b G w9 (by have := HBlk.out.2; omega) HGG.out).mono ?_
 rintro e w10 ⟨rfl, rfl⟩
 clear c1
 go_wp2_with fail
 refine (cutR_any g w.heap.size A6 n6 c6 (l.drop 16) G w10 HR9.out (by have := HN6.out; have := HN4.out; have := HN3.out; have := HN.out; omega) (by have := HGG.out; have := HBlk.out.2; omega) : Calls _ _ #[_, _] _ _).mono ?_
 rintro e w11 ⟨FS, ms, fs, A11, n11, c11, rfl, ⟨hbs11, hfr11⟩, hm11, hr11, hn11, hg11⟩
 have HK11 : Kp _ := ⟨HK9.out.over hg11 (by have := HG5.out; omega)⟩
 have HR11 : Kp (Rd w11 g w.heap.size A11 n11 c11 rs) := ⟨by rw [List.drop_drop, HRs.out] at hr11; exact hr11⟩
 have HS11 : Kp _ := ⟨hbs11⟩
 have HFr11 : Kp (Fr w.heap.size FS) := ⟨hfr11.low (by have h1 := HG.out.1; have h2 := HR9.out.var.lt; omega)⟩
 clear hfr11
 have HMs : Kp (ms ≤ n) := ⟨by have := HN6.out; have := HN4.out; have := HN3.out; omega⟩
 have HN11 : Kp (n11 ≤ n) := ⟨by have := HN6.out; have := HN4.out; have := HN3.out; omega⟩
 have HB11 : Kp (Below g w2 w11) := ⟨HB9.out.trans (grown_lo hg11 (by have := HG5.out; omega))⟩
 have HGz : Kp (g < g5 ∧ g5 < w11.heap.size) := ⟨HG5.out.1, by have := HG5.out; have := hg11.size; omega⟩
 have c2 : w11.cell? ⟨g5, 2, none⟩ = some (.slice none 0 0) := HK11.out.cell? 2
 have f2 : w11.frozen? ⟨g5, 2, none⟩ = false := HK11.out.frozen 2
 have HS12 : Kp _ := ⟨HS11.out.setrc (i := 2) HK11.out (.slice FS ms fs)⟩
 have HR12 : Kp _ := ⟨HR11.out.setCell (p := ⟨g5, 2, none⟩) HGz.out.1 (.slice FS ms fs)⟩
 have HK12 : Kp (Blk (w11.setCell ⟨g5, 2, none⟩ (.slice FS ms fs)) g5 63 (rcL num b FS ms fs none 0 0)) := ⟨HK11.out.set 2 _⟩
 have HB12 : Kp _ := ⟨HB11.out.setCell (p := ⟨g5, 2, none⟩) (Nat.le_of_lt HGz.out.1) (.slice FS ms fs)⟩
 have HZ12 : Kp ((w11.setCell ⟨g5, 2, none⟩ (.slice FS ms fs)).heap.size = w11.heap.size) := ⟨by simp⟩
 clear hbs11 hm11 hr11 hn11 hg11 HS11 HR11 HK11 HB11 HB9 HK9 HR9
 have hls : rs.length = n11 := HR12.out.bs.len
 have HQ2 : Kp (n11 / 32 = Q) := ⟨by rw [← hls]; exact HQQ.out⟩
 have hq3 : ((n11 : Int)).tdiv 32 = (Q : Int) := by rw [Int.tdiv_eq_ediv_of_nonneg (by omega)]; have := HQ2.out; omega
 have hq4 : (n11 : Int) / 32 = (Q : Int) := by have := HQ2.out; omega
 have wq : IntKind.i64.wrap (Q : Int) = (Q : Int) := by rw [IntKind.wrap_i64]; have := HQ2.out; have := HN11.out; have := HN.out; omega
 have HB4G : Kp (b ≤ 4294967296) := ⟨by have := HBlk.out.2; omega⟩
 have a1 : (w11.setCell ⟨g5, 2, none⟩ (.slice FS ms fs)).cell? ⟨g5, 1, none⟩ = some (.int .i64 b) := HK12.out.cell? 1
 have a0 : (w11.setCell ⟨g5, 2, none⟩ (.slice FS ms fs)).cell? ⟨g, 0, none⟩ = some (.slice A11 n11 c11) := HR12.out.var.cell? 0
 have HLr : Kp (rs.length ≤ n) := ⟨by rw [hls]; exact HN11.out⟩
 clear hls
 go_upto_region 6 with fail
 obtain ⟨w12, hw12⟩ : ∃ x, x = w11.setCell ⟨g5, 2, none⟩ (.slice FS ms fs) := ⟨_, rfl⟩
 rw [← hw12] at HS12 HR12 HK12 HB12 HZ12 a1 a0 ⊢
 rw [← HZ12.out] at HS12 HGz
 clear hw12 HZ12 c2 f2
 go_cut [30, 31] from 24 to 31 (fun v30 v31 wx => v30 = .int .i64 K ∧ v31 = .int .i64 0 ∧ wx = w12.drew)
 case first =>
  have hk := HKK.out
  rcases (by omega : M ≤ Q ∨ Q < M) with h | h
  ·have hkm : K = M := by omega
   clear hk
   go_wp2_with fail
   refine wp_region_still_lit (by kernel_rfl) (by kernel_rfl) ?_
   repeat (first | still_step | still_call (p16_any b M _ HB4G.out HMM.out))
   with_reducible refine wpStill_nil ?_
   change Exit.then _ _ _ _ w12.drew
   go_wp2_with fail
   go_meet
   case rel => exact ⟨by rw [hkm], rfl, rfl⟩
  ·have hkm : K = Q := by omega
   clear hk
   go_wp2_with fail
   refine wp_region_still_lit (by kernel_rfl) (by kernel_rfl) ?_
   repeat (first | still_step | still_call (p16_any b M _ HB4G.out HMM.out))
   with_reducible refine wpStill_nil ?_
   change Exit.then _ _ _ _ w12.drew
   go_wp2_with fail
   go_meet
   case rel => exact ⟨by rw [hkm], rfl, rfl⟩
 case rest =>
  obtain ⟨rfl, rfl, rfl⟩ := hcut
  clear a0 a1 hq3 hq4 wq
  obtain ⟨base, hbase⟩ : ∃ x, x = w12.heap.size := ⟨_, rfl⟩
  rw [← hbase] at HS12 HGz
  have HSz : Kp (base ≤ w12.drew.heap.size) := ⟨by rw [hbase]; exact Nat.le_refl _⟩
  have HBl : Kp (w.heap.size ≤ base) := ⟨by rw [hbase]; have h1 := HG.out.1; have h2 := HR12.out.var.lt; omega⟩
  clear hbase
  have HK63 : Kp (K * 32 ≤ rs.length ∧ K ≤ n) := ⟨by have h1 := HKK.out; have h2 := HQQ.out; have h3 := HR12.out.bs.len; have h4 := HN11.out; omega⟩
  generalize hsl : (l.drop 16).take G = sl at *
  have HSl : Kp _ := ⟨hsl⟩
  clear hsl
  go_wp2
  go_loopw [31] (fun i wr => ∃ (k : Nat) (V : Option Addr) (cv : Nat) (A' : Option Addr) (n' c' : Nat), k ≤ K ∧ i = .int .i64 k ∧ Kp (n' ≤ n) ∧ Kp (Rd wr g w.heap.size A' n' c' (rs.drop (k * 32))) ∧ Kp (Blk wr g5 63 (rcL num b FS ms fs V k cv)) ∧
   Kp (wr.ownsRow base 173 32 (.slice V k cv) k (cells8 (cutsL rs k).flatten)) ∧ Kp (Bs wr base FS ms fs sl) ∧ Kp (Below g w2 wr) ∧ Kp (base ≤ wr.heap.size)) (fun i _ => K - (intOf i).toNat)
  case atStart => exact ⟨0, none, 0, A11, n11, c11, Nat.zero_le _, rfl, HN11, ⟨by simpa using HR12.out.below (Below.refl _ _).drew⟩, ⟨HK12.out.drew⟩, ⟨nil_own _ _ _ _⟩, ⟨HS12.out.drew⟩, ⟨HB12.out.drew⟩, HSz⟩
  case round =>
   clear HR12 HK12 HS12 HB12 HSz HN11
   obtain ⟨k, V, cv, A', n', c', hk, rfl, HNn, HR, HK, HO, HS, HW, HSz⟩ := hrel
   by_cases hlt : k < K
   ·have HLen : Kp (32 ≤ n' ∧ (rs.drop (k * 32)).length = n') := ⟨by have h1 := HR.out.bs.len; have h2 := HK63.out.1; refine ⟨?_, h1⟩; rw [List.length_drop] at h1; omega⟩
    have HTk : Kp (cells8 (cutsL rs k).flatten ++ cells8 ((rs.drop (k * 32)).take 32) = cells8 (cutsL rs (k + 1)).flatten) := ⟨by rw [cutsL_succ, List.flatten_append, cells8_append]; simp⟩
    have HDl : Kp (((rs.drop (k * 32)).take 32).length = 32) := ⟨by have h1 := HLen.out; simp only [List.length_take]; omega⟩
    have HDr : Kp ((rs.drop (k * 32)).drop 32 = rs.drop ((k + 1) * 32)) := ⟨by rw [List.drop_drop]; congr 1; omega⟩
    have HD32 : Kp ((cells8 ((rs.drop (k * 32)).take 32)).length = 32) := ⟨by rw [cells8_length, HDl.out]⟩
    generalize hdd : (rs.drop (k * 32)).take 32 = d at *
    have HDd : Kp _ := ⟨hdd⟩
    clear hdd
    have hk100 : k ≤ 1000000 := by have := HK63.out.2; have := HN.out; omega
    replace HR : Kp _ := ⟨HR.out.below (Below.refl _ _).drew⟩
    replace HK : Kp _ := ⟨HK.out.drew⟩
    replace HO : Kp _ := ⟨World.ownsRow.drew HO.out⟩
    replace HS : Kp _ := ⟨HS.out.drew⟩
    replace HW : Kp _ := ⟨HW.out.drew⟩
    replace HSz : Kp (base ≤ wr.drew.heap.size) := ⟨HSz.out⟩
    go_wp2_with fail
    refine wp_region_any (by kernel_rfl) ?_
    change wpAny _ _ _ _ _ _ _ wr.drew
    generalize wr.drew = wS at *
    refine wT 0 33 ?_ rfl ?_
    try simp only [Act.put, sA, sB, sC]
    refine wT 2 35 ?_ rfl ?_
    try simp only [Act.put, sA, sB, sC]
    refine rK [1, 3] ?_
    refine aS 34 36 rfl rfl (fun K hK => ?_) fun K hK => ?_
    ·have ce : wS.cell? ⟨g5, 3, none⟩ = some (.slice V k cv) := HK.out.cell? 3
     go_simp
     refine hK _ _ ?_
     clear hK K ce
     try simp only [Act.put, sA, sB, sC]
     refine rK [3] ?_
     refine aR 36 rfl fun K hK => ?_
     go_simp
     refine (cutR_any g w.heap.size A' n' c' _ 32 wS HR.out (by have := HNn.out; have := HN.out; omega) (by omega) : Calls _ _ #[_, _] _ _).mono ?_
     rintro e w62 ⟨F, mf, ff, A2, n2, c2, rfl, ⟨hbsF, _⟩, hmf, hr2, hn2, hg2⟩
     obtain rfl : mf = 32 := by have := HLen.out; omega
     refine hK _ _ ?_
     clear hK K
     try simp only [Act.put, sA, sB, sC]
     have hgz := HGz.out
     have hsz := HSz.out
     replace HS : Kp _ := ⟨HS.out.over hsz HR.out.var hg2⟩
     replace HK : Kp _ := ⟨HK.out.over hg2 (by omega)⟩
     replace HO : Kp _ := ⟨own_over HO.out hg2 (by omega)⟩
     replace HW : Kp _ := ⟨HW.out.trans (grown_lo hg2 (by omega))⟩
     replace HSz : Kp (base ≤ w62.heap.size) := ⟨Nat.le_trans hsz hg2.size⟩
     rw [HDr.out] at hr2
     rw [HDd.out] at hbsF
     replace HR : Kp _ := ⟨hr2⟩
     have HN2 : Kp (n2 ≤ n) := ⟨by have := HNn.out; omega⟩
     obtain ⟨b1, o1, rfl, _, _⟩ := hbsF.cells (by omega)
     have HRg : Kp _ := ⟨hbsF.rng⟩
     clear hmf hn2 hg2 hr2 hbsF hgz hsz
     refine rK [4] ?_
     refine aR 37 rfl fun K hK => ?_
     refine step_toArr huDig rfl (.tmp 36) rfl rfl (Nat.le_refl 32) ?_
     refine hK _ _ ?_
     clear hK K
     try simp only [Act.put, sA, sB, sC]
     refine rK [5] ?_
     refine aR 38 rfl fun K hK => ?_
     refine step_loadR rwDig rfl (.tmp 37) rfl rfl HRg.out HD32.out ?_
     refine hK _ _ ?_
     clear hK K
     try simp only [Act.put, sA, sB, sC]
     refine rK [6] ?_
     refine aR 39 rfl fun K hK => ?_
     refine step_buildD rfl (.tmp 38) rfl d rfl HDl.out ?_
     refine hK _ _ ?_
     clear hK K
     try simp only [Act.put, sA, sB, sC]
     have hb' : Below w62.heap.size w62 (w62.alloc (.cells (cells8 d).toArray 173)) := (Below.refl _ _).alloc (Nat.le_refl _) _
     obtain ⟨gb, hgb⟩ : ∃ x, x = w62.heap.size := ⟨_, rfl⟩
     rw [← hgb]
     have hgz := HGz.out
     have hsz := HSz.out
     have HSrc : Kp (∀ j u, (cells8 d)[j]? = some u → (w62.alloc (.cells (cells8 d).toArray 173)).cell? (Addr.add ⟨gb, 0, none⟩ j) = some u) := ⟨fun j u hu => by rw [hgb, Addr.add_lit, (Blk.new w62 173 (cells8 d)).cell? (0 + j), Nat.zero_add]; exact hu⟩
     replace HR : Kp _ := ⟨HR.out.below hb'⟩
     replace HK : Kp _ := ⟨HK.out.below hb' HK.out.lt⟩
     replace HO : Kp _ := ⟨World.ownsRow.alloc HO.out (.cells (cells8 d).toArray 173)⟩
     replace HS : Kp _ := ⟨HS.out.below' hb' hsz⟩
     replace HW : Kp _ := ⟨HW.out.trans (hb'.mono (by omega))⟩
     replace HSz : Kp (base ≤ (w62.alloc (.cells (cells8 d).toArray 173)).heap.size) := ⟨Nat.le_trans hsz hb'.size⟩
     clear hgb hb' hgz hsz
     generalize (w62.alloc (.cells (cells8 d).toArray 173)) = w65 at *
     refine rK [7] ?_
     refine aR 40 rfl fun K hK => ?_
     refine step_appK Tryz.underlying61 infDig zDig_size (by decide) rfl (.tmp 34) (.tmp 39) rfl base _ k _ rfl HO.out ⟨gb, 0, none⟩ 1 1 (cells8 d) rfl HD32.out HSrc.out (cells8_one _) (by simp only [maxLen]; omega) (by omega) HSz.out ?_
     intro v' w66 hown' hb'
     refine hK _ _ ?_
     clear hK K
     try simp only [Act.put, sA, sB, sC]
     rw [HTk.out] at hown'
     obtain ⟨V2, cv2, rfl⟩ := own_form' hown'
     have hgz := HGz.out
     replace HO : Kp _ := ⟨hown'⟩
     replace HK : Kp _ := ⟨HK.out.below hb' (by omega)⟩
     replace HR : Kp _ := ⟨HR.out.below' hb' (by omega)⟩
     replace HS : Kp _ := ⟨HS.out.below hb'⟩
     replace HW : Kp _ := ⟨HW.out.trans (hb'.mono (by omega))⟩
     replace HSz : Kp (base ≤ w66.heap.size) := ⟨Nat.le_trans HSz.out hb'.size⟩
     clear hown' hb' hgz HSrc HRg
     refine wT 8 41 ?_ rfl ?_
     try simp only [Act.put, sA, sB, sC]
     refine rK [9] ?_
     refine AllReady.cons (o := ⟨none, _, _, _, _, _⟩) rfl (fun K hK => ?_) AllReady.nil
     have ce : w66.cell? ⟨g5, 3, none⟩ = some (.slice V k cv) := HK.out.cell? 3
     have fe := HK.out.frozen 3
     go_simp
     refine hK _ _ ?_
     clear hK K ce fe
     try simp only [Act.put]
     have hgz := HGz.out
     replace HS : Kp _ := ⟨HS.out.setrc (i := 3) HK.out (.slice V2 (k + 1) cv2)⟩
     replace HK : Kp _ := ⟨HK.out.set 3 (.slice V2 (k + 1) cv2)⟩
     replace HR : Kp _ := ⟨HR.out.setCell (p := ⟨g5, 3, none⟩) hgz.1 (.slice V2 (k + 1) cv2)⟩
     replace HO : Kp _ := ⟨ownsRow_setCell_below HO.out (a := ⟨g5, 3, none⟩) hgz.2 (.slice V2 (k + 1) cv2)⟩
     replace HW : Kp _ := ⟨HW.out.setCell (p := ⟨g5, 3, none⟩) (Nat.le_of_lt hgz.1) (.slice V2 (k + 1) cv2)⟩
     replace HSz : Kp (base ≤ (w66.setCell ⟨g5, 3, none⟩ (.slice V2 (k + 1) cv2)).heap.size) := ⟨by simpa using HSz.out⟩
     clear hgz
     refine wpAny_done (by kernel_rfl) ?_ _
     go_wp2
     go_roundw
     case rel => exact ⟨k + 1, V2, cv2, A2, n2, c2, by omega, by go_num, HN2, HR, HK, HO, HS, HW, HSz⟩
     case measure => simp [intOf]; omega
    ·go_simp
     refine (cutR_any g w.heap.size A' n' c' _ 32 wS HR.out (by have := HNn.out; have := HN.out; omega) (by omega) : Calls _ _ #[_, _] _ _).mono ?_
     rintro e w68 ⟨F, mf, ff, A2, n2, c2, rfl, ⟨hbsF, _⟩, hmf, hr2, hn2, hg2⟩
     obtain rfl : mf = 32 := by have := HLen.out; omega
     refine hK _ _ ?_
     clear hK K
     try simp only [Act.put, sA, sB, sC]
     have hgz := HGz.out
     have hsz := HSz.out
     replace HS : Kp _ := ⟨HS.out.over hsz HR.out.var hg2⟩
     replace HK : Kp _ := ⟨HK.out.over hg2 (by omega)⟩
     replace HO : Kp _ := ⟨own_over HO.out hg2 (by omega)⟩
     replace HW : Kp _ := ⟨HW.out.trans (grown_lo hg2 (by omega))⟩
     replace HSz : Kp (base ≤ w68.heap.size) := ⟨Nat.le_trans hsz hg2.size⟩
     rw [HDr.out] at hr2
     rw [HDd.out] at hbsF
     replace HR : Kp _ := ⟨hr2⟩
     have HN2 : Kp (n2 ≤ n) := ⟨by have := HNn.out; omega⟩
     obtain ⟨b1, o1, rfl, _, _⟩ := hbsF.cells (by omega)
     have HRg : Kp _ := ⟨hbsF.rng⟩
     clear hmf hn2 hg2 hr2 hbsF hgz hsz
     refine rK [1, 4] ?_
     refine aS 34 37 rfl rfl (fun K hK => ?_) fun K hK => ?_
     ·have ce : w68.cell? ⟨g5, 3, none⟩ = some (.slice V k cv) := HK.out.cell? 3
      go_simp
      refine hK _ _ ?_
      clear hK K ce
      try simp only [Act.put, sA, sB, sC]
      refine rK [4] ?_
      refine aR 37 rfl fun K hK => ?_
      refine step_toArr huDig rfl (.tmp 36) rfl rfl (Nat.le_refl 32) ?_
      refine hK _ _ ?_
      clear hK K
      try simp only [Act.put, sA, sB, sC]
      refine rK [5] ?_
      refine aR 38 rfl fun K hK => ?_
      refine step_loadR rwDig rfl (.tmp 37) rfl rfl HRg.out HD32.out ?_
      refine hK _ _ ?_
      clear hK K
      try simp only [Act.put, sA, sB, sC]
      refine rK [6] ?_
      refine aR 39 rfl fun K hK => ?_
      refine step_buildD rfl (.tmp 38) rfl d rfl HDl.out ?_
      refine hK _ _ ?_
      clear hK K
      try simp only [Act.put, sA, sB, sC]
      have hb' : Below w68.heap.size w68 (w68.alloc (.cells (cells8 d).toArray 173)) := (Below.refl _ _).alloc (Nat.le_refl _) _
      obtain ⟨gb, hgb⟩ : ∃ x, x = w68.heap.size := ⟨_, rfl⟩
      rw [← hgb]
      have hgz := HGz.out
      have hsz := HSz.out
      have HSrc : Kp (∀ j u, (cells8 d)[j]? = some u → (w68.alloc (.cells (cells8 d).toArray 173)).cell? (Addr.add ⟨gb, 0, none⟩ j) = some u) := ⟨fun j u hu => by rw [hgb, Addr.add_lit, (Blk.new w68 173 (cells8 d)).cell? (0 + j), Nat.zero_add]; exact hu⟩
      replace HR : Kp _ := ⟨HR.out.below hb'⟩
      replace HK : Kp _ := ⟨HK.out.below hb' HK.out.lt⟩
      replace HO : Kp _ := ⟨World.ownsRow.alloc HO.out (.cells (cells8 d).toArray 173)⟩
      replace HS : Kp _ := ⟨HS.out.below' hb' hsz⟩
      replace HW : Kp _ := ⟨HW.out.trans (hb'.mono (by omega))⟩
      replace HSz : Kp (base ≤ (w68.alloc (.cells (cells8 d).toArray 173)).heap.size) := ⟨Nat.le_trans hsz hb'.size⟩
      clear hgb hb' hgz hsz
      generalize (w68.alloc (.cells (cells8 d).toArray 173)) = w72 at *
      refine rK [7] ?_
      refine aR 40 rfl fun K hK => ?_
      refine step_appK Tryz.underlying61 infDig zDig_size (by decide) rfl (.tmp 34) (.tmp 39) rfl base _ k _ rfl HO.out ⟨gb, 0, none⟩ 1 1 (cells8 d) rfl HD32.out HSrc.out (cells8_one _) (by simp only [maxLen]; omega) (by omega) HSz.out ?_
      intro v' w73 hown' hb'
      refine hK _ _ ?_
      clear hK K
      try simp only [Act.put, sA, sB, sC]
      rw [HTk.out] at hown'
      obtain ⟨V2, cv2, rfl⟩ := own_form' hown'
      have hgz := HGz.out
      replace HO : Kp _ := ⟨hown'⟩
      replace HK : Kp _ := ⟨HK.out.below hb' (by omega)⟩
      replace HR : Kp _ := ⟨HR.out.below' hb' (by omega)⟩
      replace HS : Kp _ := ⟨HS.out.below hb'⟩
      replace HW : Kp _ := ⟨HW.out.trans (hb'.mono (by omega))⟩
      replace HSz : Kp (base ≤ w73.heap.size) := ⟨Nat.le_trans HSz.out hb'.size⟩
      clear hown' hb' hgz HSrc HRg
      refine wT 8 41 ?_ rfl ?_
      try simp only [Act.put, sA, sB, sC]
      refine rK [9] ?_
      refine AllReady.cons (o := ⟨none, _, _, _, _, _⟩) rfl (fun K hK => ?_) AllReady.nil
      have ce : w73.cell? ⟨g5, 3, none⟩ = some (.slice V k cv) := HK.out.cell? 3
      have fe := HK.out.frozen 3
      go_simp
      refine hK _ _ ?_
      clear hK K ce fe
      try simp only [Act.put]
      have hgz := HGz.out
      replace HS : Kp _ := ⟨HS.out.setrc (i := 3) HK.out (.slice V2 (k + 1) cv2)⟩
      replace HK : Kp _ := ⟨HK.out.set 3 (.slice V2 (k + 1) cv2)⟩
      replace HR : Kp _ := ⟨HR.out.setCell (p := ⟨g5, 3, none⟩) hgz.1 (.slice V2 (k + 1) cv2)⟩
      replace HO : Kp _ := ⟨ownsRow_setCell_below HO.out (a := ⟨g5, 3, none⟩) hgz.2 (.slice V2 (k + 1) cv2)⟩
      replace HW : Kp _ := ⟨HW.out.setCell (p := ⟨g5, 3, none⟩) (Nat.le_of_lt hgz.1) (.slice V2 (k + 1) cv2)⟩
      replace HSz : Kp (base ≤ (w73.setCell ⟨g5, 3, none⟩ (.slice V2 (k + 1) cv2)).heap.size) := ⟨by simpa using HSz.out⟩
      clear hgz
      refine wpAny_done (by kernel_rfl) ?_ _
      go_wp2
      go_roundw
      case rel => exact ⟨k + 1, V2, cv2, A2, n2, c2, by omega, by go_num, HN2, HR, HK, HO, HS, HW, HSz⟩
      case measure => simp [intOf]; omega
     ·refine step_toArr huDig rfl (.tmp 36) rfl rfl (Nat.le_refl 32) ?_
      refine hK _ _ ?_
      clear hK K
      try simp only [Act.put, sA, sB, sC]
      refine rK [1, 5] ?_
      refine aS 34 38 rfl rfl (fun K hK => ?_) fun K hK => ?_
      ·have ce : w68.cell? ⟨g5, 3, none⟩ = some (.slice V k cv) := HK.out.cell? 3
       go_simp
       refine hK _ _ ?_
       clear hK K ce
       try simp only [Act.put, sA, sB, sC]
       refine rK [5] ?_
       refine aR 38 rfl fun K hK => ?_
       refine step_loadR rwDig rfl (.tmp 37) rfl rfl HRg.out HD32.out ?_
       refine hK _ _ ?_
       clear hK K
       try simp only [Act.put, sA, sB, sC]
       refine rK [6] ?_
       refine aR 39 rfl fun K hK => ?_
       refine step_buildD rfl (.tmp 38) rfl d rfl HDl.out ?_
       refine hK _ _ ?_
       clear hK K
       try simp only [Act.put, sA, sB, sC]
       have hb' : Below w68.heap.size w68 (w68.alloc (.cells (cells8 d).toArray 173)) := (Below.refl _ _).alloc (Nat.le_refl _) _
       obtain ⟨gb, hgb⟩ : ∃ x, x = w68.heap.size := ⟨_, rfl⟩
       rw [← hgb]
       have hgz := HGz.out
       have hsz := HSz.out
       have HSrc : Kp (∀ j u, (cells8 d)[j]? = some u → (w68.alloc (.cells (cells8 d).toArray 173)).cell? (Addr.add ⟨gb, 0, none⟩ j) = some u) := ⟨fun j u hu => by rw [hgb, Addr.add_lit, (Blk.new w68 173 (cells8 d)).cell? (0 + j), Nat.zero_add]; exact hu⟩
       replace HR : Kp _ := ⟨HR.out.below hb'⟩
       replace HK : Kp _ := ⟨HK.out.below hb' HK.out.lt⟩
       replace HO : Kp _ := ⟨World.ownsRow.alloc HO.out (.cells (cells8 d).toArray 173)⟩
       replace HS : Kp _ := ⟨HS.out.below' hb' hsz⟩
       replace HW : Kp _ := ⟨HW.out.trans (hb'.mono (by omega))⟩
       replace HSz : Kp (base ≤ (w68.alloc (.cells (cells8 d).toArray 173)).heap.size) := ⟨Nat.le_trans hsz hb'.size⟩
       clear hgb hb' hgz hsz
       generalize (w68.alloc (.cells (cells8 d).toArray 173)) = w78 at *
       refine rK [7] ?_
       refine aR 40 rfl fun K hK => ?_
       refine step_appK Tryz.underlying61 infDig zDig_size (by decide) rfl (.tmp 34) (.tmp 39) rfl base _ k _ rfl HO.out ⟨gb, 0, none⟩ 1 1 (cells8 d) rfl HD32.out HSrc.out (cells8_one _) (by simp only [maxLen]; omega) (by omega) HSz.out ?_
       intro v' w79 hown' hb'
       refine hK _ _ ?_
       clear hK K
       try simp only [Act.put, sA, sB, sC]
       rw [HTk.out] at hown'
       obtain ⟨V2, cv2, rfl⟩ := own_form' hown'
       have hgz := HGz.out
       replace HO : Kp _ := ⟨hown'⟩
       replace HK : Kp _ := ⟨HK.out.below hb' (by omega)⟩
       replace HR : Kp _ := ⟨HR.out.below' hb' (by omega)⟩
       replace HS : Kp _ := ⟨HS.out.below hb'⟩
       replace HW : Kp _ := ⟨HW.out.trans (hb'.mono (by omega))⟩
       replace HSz : Kp (base ≤ w79.heap.size) := ⟨Nat.le_trans HSz.out hb'.size⟩
       clear hown' hb' hgz HSrc HRg
       refine wT 8 41 ?_ rfl ?_
       try simp only [Act.put, sA, sB, sC]
       refine rK [9] ?_
       refine AllReady.cons (o := ⟨none, _, _, _, _, _⟩) rfl (fun K hK => ?_) AllReady.nil
       have ce : w79.cell? ⟨g5, 3, none⟩ = some (.slice V k cv) := HK.out.cell? 3
       have fe := HK.out.frozen 3
       go_simp
       refine hK _ _ ?_
       clear hK K ce fe
       try simp only [Act.put]
       have hgz := HGz.out
       replace HS : Kp _ := ⟨HS.out.setrc (i := 3) HK.out (.slice V2 (k + 1) cv2)⟩
       replace HK : Kp _ := ⟨HK.out.set 3 (.slice V2 (k + 1) cv2)⟩
       replace HR : Kp _ := ⟨HR.out.setCell (p := ⟨g5, 3, none⟩) hgz.1 (.slice V2 (k + 1) cv2)⟩
       replace HO : Kp _ := ⟨ownsRow_setCell_below HO.out (a := ⟨g5, 3, none⟩) hgz.2 (.slice V2 (k + 1) cv2)⟩
       replace HW : Kp _ := ⟨HW.out.setCell (p := ⟨g5, 3, none⟩) (Nat.le_of_lt hgz.1) (.slice V2 (k + 1) cv2)⟩
       replace HSz : Kp (base ≤ (w79.setCell ⟨g5, 3, none⟩ (.slice V2 (k + 1) cv2)).heap.size) := ⟨by simpa using HSz.out⟩
       clear hgz
       refine wpAny_done (by kernel_rfl) ?_ _
       go_wp2
       go_roundw
       case rel => exact ⟨k + 1, V2, cv2, A2, n2, c2, by omega, by go_num, HN2, HR, HK, HO, HS, HW, HSz⟩
       case measure => simp [intOf]; omega
      ·refine step_loadR rwDig rfl (.tmp 37) rfl rfl HRg.out HD32.out ?_
       refine hK _ _ ?_
       clear hK K
       try simp only [Act.put, sA, sB, sC]
       refine rK [1, 6] ?_
       refine aS 34 39 rfl rfl (fun K hK => ?_) fun K hK => ?_
       ·have ce : w68.cell? ⟨g5, 3, none⟩ = some (.slice V k cv) := HK.out.cell? 3
        go_simp
        refine hK _ _ ?_
        clear hK K ce
        try simp only [Act.put, sA, sB, sC]
        refine rK [6] ?_
        refine aR 39 rfl fun K hK => ?_
        refine step_buildD rfl (.tmp 38) rfl d rfl HDl.out ?_
        refine hK _ _ ?_
        clear hK K
        try simp only [Act.put, sA, sB, sC]
        have hb' : Below w68.heap.size w68 (w68.alloc (.cells (cells8 d).toArray 173)) := (Below.refl _ _).alloc (Nat.le_refl _) _
        obtain ⟨gb, hgb⟩ : ∃ x, x = w68.heap.size := ⟨_, rfl⟩
        rw [← hgb]
        have hgz := HGz.out
        have hsz := HSz.out
        have HSrc : Kp (∀ j u, (cells8 d)[j]? = some u → (w68.alloc (.cells (cells8 d).toArray 173)).cell? (Addr.add ⟨gb, 0, none⟩ j) = some u) := ⟨fun j u hu => by rw [hgb, Addr.add_lit, (Blk.new w68 173 (cells8 d)).cell? (0 + j), Nat.zero_add]; exact hu⟩
        replace HR : Kp _ := ⟨HR.out.below hb'⟩
        replace HK : Kp _ := ⟨HK.out.below hb' HK.out.lt⟩
        replace HO : Kp _ := ⟨World.ownsRow.alloc HO.out (.cells (cells8 d).toArray 173)⟩
        replace HS : Kp _ := ⟨HS.out.below' hb' hsz⟩
        replace HW : Kp _ := ⟨HW.out.trans (hb'.mono (by omega))⟩
        replace HSz : Kp (base ≤ (w68.alloc (.cells (cells8 d).toArray 173)).heap.size) := ⟨Nat.le_trans hsz hb'.size⟩
        clear hgb hb' hgz hsz
        generalize (w68.alloc (.cells (cells8 d).toArray 173)) = w83 at *
        refine rK [7] ?_
        refine aR 40 rfl fun K hK => ?_
        refine step_appK Tryz.underlying61 infDig zDig_size (by decide) rfl (.tmp 34) (.tmp 39) rfl base _ k _ rfl HO.out ⟨gb, 0, none⟩ 1 1 (cells8 d) rfl HD32.out HSrc.out (cells8_one _) (by simp only [maxLen]; omega) (by omega) HSz.out ?_
        intro v' w84 hown' hb'
        refine hK _ _ ?_
        clear hK K
        try simp only [Act.put, sA, sB, sC]
        rw [HTk.out] at hown'
        obtain ⟨V2, cv2, rfl⟩ := own_form' hown'
        have hgz := HGz.out
        replace HO : Kp _ := ⟨hown'⟩
        replace HK : Kp _ := ⟨HK.out.below hb' (by omega)⟩
        replace HR : Kp _ := ⟨HR.out.below' hb' (by omega)⟩
        replace HS : Kp _ := ⟨HS.out.below hb'⟩
        replace HW : Kp _ := ⟨HW.out.trans (hb'.mono (by omega))⟩
        replace HSz : Kp (base ≤ w84.heap.size) := ⟨Nat.le_trans HSz.out hb'.size⟩
        clear hown' hb' hgz HSrc HRg
        refine wT 8 41 ?_ rfl ?_
        try simp only [Act.put, sA, sB, sC]
        refine rK [9] ?_
        refine AllReady.cons (o := ⟨none, _, _, _, _, _⟩) rfl (fun K hK => ?_) AllReady.nil
        have ce : w84.cell? ⟨g5, 3, none⟩ = some (.slice V k cv) := HK.out.cell? 3
        have fe := HK.out.frozen 3
        go_simp
        refine hK _ _ ?_
        clear hK K ce fe
        try simp only [Act.put]
        have hgz := HGz.out
        replace HS : Kp _ := ⟨HS.out.setrc (i := 3) HK.out (.slice V2 (k + 1) cv2)⟩
        replace HK : Kp _ := ⟨HK.out.set 3 (.slice V2 (k + 1) cv2)⟩
        replace HR : Kp _ := ⟨HR.out.setCell (p := ⟨g5, 3, none⟩) hgz.1 (.slice V2 (k + 1) cv2)⟩
        replace HO : Kp _ := ⟨ownsRow_setCell_below HO.out (a := ⟨g5, 3, none⟩) hgz.2 (.slice V2 (k + 1) cv2)⟩
        replace HW : Kp _ := ⟨HW.out.setCell (p := ⟨g5, 3, none⟩) (Nat.le_of_lt hgz.1) (.slice V2 (k + 1) cv2)⟩
        replace HSz : Kp (base ≤ (w84.setCell ⟨g5, 3, none⟩ (.slice V2 (k + 1) cv2)).heap.size) := ⟨by simpa using HSz.out⟩
        clear hgz
        refine wpAny_done (by kernel_rfl) ?_ _
        go_wp2
        go_roundw
        case rel => exact ⟨k + 1, V2, cv2, A2, n2, c2, by omega, by go_num, HN2, HR, HK, HO, HS, HW, HSz⟩
        case measure => simp [intOf]; omega
       ·refine step_buildD rfl (.tmp 38) rfl d rfl HDl.out ?_
        refine hK _ _ ?_
        clear hK K
        try simp only [Act.put, sA, sB, sC]
        have hb' : Below w68.heap.size w68 (w68.alloc (.cells (cells8 d).toArray 173)) := (Below.refl _ _).alloc (Nat.le_refl _) _
        obtain ⟨gb, hgb⟩ : ∃ x, x = w68.heap.size := ⟨_, rfl⟩
        rw [← hgb]
        have hgz := HGz.out
        have hsz := HSz.out
        have HSrc : Kp (∀ j u, (cells8 d)[j]? = some u → (w68.alloc (.cells (cells8 d).toArray 173)).cell? (Addr.add ⟨gb, 0, none⟩ j) = some u) := ⟨fun j u hu => by rw [hgb, Addr.add_lit, (Blk.new w68 173 (cells8 d)).cell? (0 + j), Nat.zero_add]; exact hu⟩
        replace HR : Kp _ := ⟨HR.out.below hb'⟩
        replace HK : Kp _ := ⟨HK.out.below hb' HK.out.lt⟩
        replace HO : Kp _ := ⟨World.ownsRow.alloc HO.out (.cells (cells8 d).toArray 173)⟩
        replace HS : Kp _ := ⟨HS.out.below' hb' hsz⟩
        replace HW : Kp _ := ⟨HW.out.trans (hb'.mono (by omega))⟩
        replace HSz : Kp (base ≤ (w68.alloc (.cells (cells8 d).toArray 173)).heap.size) := ⟨Nat.le_trans hsz hb'.size⟩
        clear hgb hb' hgz hsz
        generalize (w68.alloc (.cells (cells8 d).toArray 173)) = w86 at *
        refine rK [1] ?_
        refine aR 34 rfl fun K hK => ?_
        have ce : w86.cell? ⟨g5, 3, none⟩ = some (.slice V k cv) := HK.out.cell? 3
        go_simp
        refine hK _ _ ?_
        clear hK K ce
        try simp only [Act.put, sA, sB, sC]
        refine rK [7] ?_
        refine aR 40 rfl fun K hK => ?_
        refine step_appK Tryz.underlying61 infDig zDig_size (by decide) rfl (.tmp 34) (.tmp 39) rfl base _ k _ rfl HO.out ⟨gb, 0, none⟩ 1 1 (cells8 d) rfl HD32.out HSrc.out (cells8_one _) (by simp only [maxLen]; omega) (by omega) HSz.out ?_
        intro v' w88 hown' hb'
        refine hK _ _ ?_
        clear hK K
        try simp only [Act.put, sA, sB, sC]
        rw [HTk.out] at hown'
        obtain ⟨V2, cv2, rfl⟩ := own_form' hown'
        have hgz := HGz.out
        replace HO : Kp _ := ⟨hown'⟩
        replace HK : Kp _ := ⟨HK.out.below hb' (by omega)⟩
        replace HR : Kp _ := ⟨HR.out.below' hb' (by omega)⟩
        replace HS : Kp _ := ⟨HS.out.below hb'⟩
        replace HW : Kp _ := ⟨HW.out.trans (hb'.mono (by omega))⟩
        replace HSz : Kp (base ≤ w88.heap.size) := ⟨Nat.le_trans HSz.out hb'.size⟩
        clear hown' hb' hgz HSrc HRg
        refine wT 8 41 ?_ rfl ?_
        try simp only [Act.put, sA, sB, sC]
        refine rK [9] ?_
        refine AllReady.cons (o := ⟨none, _, _, _, _, _⟩) rfl (fun K hK => ?_) AllReady.nil
        have ce : w88.cell? ⟨g5, 3, none⟩ = some (.slice V k cv) := HK.out.cell? 3
        have fe := HK.out.frozen 3
        go_simp
        refine hK _ _ ?_
        clear hK K ce fe
        try simp only [Act.put]
        have hgz := HGz.out
        replace HS : Kp _ := ⟨HS.out.setrc (i := 3) HK.out (.slice V2 (k + 1) cv2)⟩
        replace HK : Kp _ := ⟨HK.out.set 3 (.slice V2 (k + 1) cv2)⟩
        replace HR : Kp _ := ⟨HR.out.setCell (p := ⟨g5, 3, none⟩) hgz.1 (.slice V2 (k + 1) cv2)⟩
        replace HO : Kp _ := ⟨ownsRow_setCell_below HO.out (a := ⟨g5, 3, none⟩) hgz.2 (.slice V2 (k + 1) cv2)⟩
        replace HW : Kp _ := ⟨HW.out.setCell (p := ⟨g5, 3, none⟩) (Nat.le_of_lt hgz.1) (.slice V2 (k + 1) cv2)⟩
        replace HSz : Kp (base ≤ (w88.setCell ⟨g5, 3, none⟩ (.slice V2 (k + 1) cv2)).heap.size) := ⟨by simpa using HSz.out⟩
        clear hgz
        refine wpAny_done (by kernel_rfl) ?_ _
        go_wp2
        go_roundw
        case rel => exact ⟨k + 1, V2, cv2, A2, n2, c2, by omega, by go_num, HN2, HR, HK, HO, HS, HW, HSz⟩
        case measure => simp [intOf]; omega
   ·obtain rfl : k = K := by omega
    have HKr4 : Kp _ := ⟨HKr2.out.below HW.out HG.out.1⟩
    have HBe : Kp (Below w.heap.size w wr) := ⟨HB2.out.trans (HW.out.mono (Nat.le_of_lt HG.out.1))⟩
    go_wp2_with (first
     | (with_reducible refine wpList_loadAll (o := ⟨some 43, _, _, _, _, _⟩) rwSeal rfl (.tmp 5) rfl rfl HK.out rfl ?_)
     | (with_reducible refine wpList_storeAll (o := ⟨none, _, _, _, _, _⟩) (vs := rcL num b FS ms fs V k cv) rwSeal rfl (.tmp 2) (.tmp 43) rfl rfl HKr4.out rfl rfl (rcL_one _ _ _ _ _ _ _ _) rfl ?_))
    intro w9 hk9 ho9
    have HK9 : Kp _ := ⟨hk9⟩
    have HB9 : Kp (Below w.heap.size w w9) := ⟨HBe.out.trans (ho9.below (Nat.le_refl _))⟩
    have X8 : Kp (Bs w9 w9.heap.size FS ms fs sl) := ⟨((HS.out.over' ho9 HKr4.out)).more (by have := HSz.out; have := ho9.size; omega)⟩
    have F32 : Kp _ := ⟨(Fr.own HO.out).low HBl.out⟩
    have X32 : Kp (Ds w9 w9.heap.size V k cv (cutsL rs k)) := ⟨Ds.of_own' (HWide.out k (Nat.le_refl _)) (own_only HO.out ho9 (by have := HG.out; have := HGz.out; omega))⟩
    clear hk9 ho9
    go_wp2
    refine ret_arr rfl rwSeal rfl HK9.out rfl rfl ?_
    rw [HRead.out]
    exact ⟨FS, ms, fs, V, k, cv, rfl, ⟨⟨HNum.out.2, ⟨by show -9223372036854775808 ≤ (b : Int); omega, by show (b : Int) < 9223372036854775808; have := HBlk.out.2; omega⟩, X8.out, X32.out⟩, HFr11.out, F32.out⟩, HMs.out, by have h1 := HK63.out.1; have h2 := HLr.out; omega, HB9.out⟩
end Go.Proofs.YtcehkafddlfleaaGreatDoor
