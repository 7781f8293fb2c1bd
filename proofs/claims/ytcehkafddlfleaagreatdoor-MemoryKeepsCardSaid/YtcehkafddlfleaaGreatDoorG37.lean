/-  -/
import Derived.Test.YtcehkafddlfleaaGreatDoorG02
import Derived.Test.YtcehkafddlfleaaGreatDoorG33
import Derived.Test.YtcehkafddlfleaaGreatDoorG08
namespace Go.Proofs.YtcehkafddlfleaaGreatDoor
open Go.RowKit
structure Two5 (w : World) (ga gb : Nat) (t : TypeId) (ca cb : List Value) (W : World) : Prop where
 a : Blk W ga t ca
 b : Blk W gb t cb
 below : Below w.heap.size w W
section
variable {w W W' : World} {ga gb g : Nat} {t : TypeId} {ca cb : List Value}
theorem Two5.next (h : Two5 w ga gb t ca cb W) (hb : Below W.heap.size W W') : Two5 w ga gb t ca cb W' := ⟨h.a.below hb h.a.lt, h.b.below hb h.b.lt, h.below.trans (hb.mono h.below.size)⟩
theorem Two5.drew (h : Two5 w ga gb t ca cb W) : Two5 w ga gb t ca cb W.drew := ⟨h.a.drew, h.b.drew, h.below.drew⟩
theorem Two5.only (h : Two5 w ga gb t ca cb W) (ho : Only g W W') (ha : ga < g) (hb : gb < g) (hw : w.heap.size ≤ g) : Two5 w ga gb t ca cb W' := ⟨h.a.only ho (by omega), h.b.only ho (by omega), h.below.trans (ho.below hw)⟩
end
theorem take_all32 {l : List Value} {n : Nat} (h : l.length = n) : (l.drop 0).take n = l := by rw [List.drop_zero, List.take_of_length_le (by omega)]
theorem fit_all32 {l : List Value} {n : Nat} (h : l.length = n) : 0 + n ≤ l.length := by omega
theorem store_all32 {cs vs : List Value} {n : Nat} (h : cs.length = n) : cs.take 0 ++ vs ++ cs.drop (0 + n) = vs := by rw [List.drop_of_length_le (by omega)]; simp
set_option maxRecDepth 100000 in
set_option maxHeartbeats 4000000 in
theorem sadd_any (a b : List UInt8) (w : World) (ha : a.length = 32) (hb : b.length = 32) : Calls Tryz.prog 144 #[.agg (cells8 a).toArray, .agg (cells8 b).toArray] w fun e w' => e = .returned (.agg (cells8 (addL a b)).toArray) ∧ Below w.heap.size w w' := by
 have HA32 : Kp _ := ⟨ha⟩
 have HB32 : Kp _ := ⟨hb⟩
 have HLa : Kp ((cells8 a).length = 32) := ⟨by rw [cells8_length]; exact ha⟩
 have HLb : Kp ((cells8 b).length = 32) := ⟨by rw [cells8_length]; exact hb⟩
 have HGa : Kp _ := ⟨getN_lt32 ha⟩
 have HGb : Kp _ := ⟨getN_lt32 hb⟩
 have huD : (Tryz.prog).underlying 173 = some (.array 32 5) := rwDig.ty
 have hia : ((Tryz.prog).info? 173).map (·.size) = some (cells8 a).length := by rw [HLa.out]; exact rwDig.size
 have hib : ((Tryz.prog).info? 173).map (·.size) = some (cells8 b).length := by rw [HLb.out]; exact rwDig.size
 clear ha hb
 obtain ⟨L, hL⟩ : ∃ L, L = addL a b := ⟨_, rfl⟩
 have HDg : Kp (∀ W, Calls Tryz.prog 201 #[.agg (numCells (W4 (getN a + getN b))).toArray] W fun e w' => e = .returned (.agg (cells8 L).toArray) ∧ Below W.heap.size W w') := ⟨fun W => by rw [hL]; exact sdigest_any _ W⟩
 have HLr : Kp ((cells8 L).length = 32) := ⟨by rw [hL, cells8_length, addL_length]⟩
 rw [← hL]
 clear hL
 go_enter Tryz.func144, Tryz.ntmps144
 go_wp2_with (with_reducible refine wpList_box (o := ⟨some 2, _, _, _, _, _⟩) rfl (.tmp 0) rfl rfl ?_)
 intro w1 hk1 hb1 hs1
 have HK1 : Kp _ := ⟨hk1⟩
 clear hk1 hs1
 go_wp2_with (with_reducible refine wpList_box (o := ⟨some 3, _, _, _, _, _⟩) rfl (.tmp 1) rfl rfl ?_)
 intro w2 hk2 hb2 hs2
 have hT2 : Two5 w w.heap.size w1.heap.size 173 (cells8 a) (cells8 b) w2 := ⟨HK1.out.below hb2 HK1.out.lt, hk2, hb1.trans (hb2.mono hb1.size)⟩
 have n1 : w.heap.size < w1.heap.size := HK1.out.lt
 have n2 : w1.heap.size < w2.heap.size := hk2.lt
 obtain ⟨gb, hgb⟩ : ∃ g, g = w1.heap.size := ⟨_, rfl⟩
 rw [← hgb] at hT2 n1 n2 ⊢
 clear hk2 hb1 hb2 hs2 HK1 hgb
 go_wp2_with (with_reducible refine wpList_alloc (o := ⟨some 4, _, _, _, _, _⟩) tyDig rfl rfl ?_)
 intro w3 hk3 hb3 hs3
 have HR : Kp _ := ⟨hk3⟩
 have hT3 := hT2.next hb3
 obtain ⟨gr, hgr⟩ : ∃ g, g = w2.heap.size := ⟨_, rfl⟩
 have n3 : gr < w3.heap.size := by rw [hgr]; exact HR.out.lt
 rw [← hgr] at HR n2 ⊢
 clear hk3 hb3 hs3 hT2 hgr
 have HRd : Kp _ := ⟨HR.out.drew⟩
 clear HR
 go_wp2_with fail
 refine wp_region_held_drew (S := Two5 w w.heap.size gb 173 (cells8 a) (cells8 b)) (by kernel_rfl) (hT3.drew) (fun hHeld => ?_)
 generalize w3.drew = wS at *
 have HR := HRd
 clear HRd
 refine wpAnyH_take (i := 0) (oi := ⟨some 5, _, _, _, _, _⟩) (v := _) rfl (by kernel_rfl) (by kernel_rfl) (by kernel_rfl) (fun _ _ _ h => h) (yieldsIf_load_mid (by rfl) _ (.tmp 2) rfl _ _ rfl (cells8 a) _ (fun W hW => hW.a.range (take_all32 HLa.out)) huD rfl hia) (by assumption) ?_
 try simp only [Act.put, sA, sB, sC]
 refine wpAnyH_take (i := 2) (oi := ⟨some 7, _, _, _, _, _⟩) (v := _) rfl (by kernel_rfl) (by kernel_rfl) (by kernel_rfl) (fun _ _ _ h => h) (yieldsIf_load_mid (by rfl) _ (.tmp 3) rfl _ _ rfl (cells8 b) _ (fun W hW => hW.b.range (take_all32 HLb.out)) huD rfl hib) (by assumption) ?_
 try simp only [Act.put, sA, sB, sC]
 refine rH [1] ?_
 refine aH 6 rfl fun K hK => ?_
 go_simp
 refine (split_any a _ HA32.out).mono ?_
 rintro e w51 ⟨rfl, hb'⟩
 try replace HR : Kp _ := ⟨HR.out.below hb' HR.out.lt⟩
 try replace HW : Kp _ := ⟨HW.out.below hb' HW.out.lt⟩
 refine hK.out _ _ (hHeld.next hb') (fun hHeld2 => ?_)
 clear hb'
 clear hK K hHeld
 have hHeld := hHeld2
 clear hHeld2
 try simp only [Act.put, sA, sB, sC]
 refine rH [3] ?_
 refine aH 8 rfl fun K hK => ?_
 go_simp
 refine (split_any b _ HB32.out).mono ?_
 rintro e w52 ⟨rfl, hb'⟩
 try replace HR : Kp _ := ⟨HR.out.below hb' HR.out.lt⟩
 try replace HW : Kp _ := ⟨HW.out.below hb' HW.out.lt⟩
 refine hK.out _ _ (hHeld.next hb') (fun hHeld2 => ?_)
 clear hb'
 clear hK K hHeld
 have hHeld := hHeld2
 clear hHeld2
 try simp only [Act.put, sA, sB, sC]
 refine rH [4] ?_
 refine aH 9 rfl fun K hK => ?_
 go_simp
 refine (plus_any (getN a) (getN b) _).mono ?_
 rintro e w53 ⟨rfl, hb'⟩
 try replace HR : Kp _ := ⟨HR.out.below hb' HR.out.lt⟩
 try replace HW : Kp _ := ⟨HW.out.below hb' HW.out.lt⟩
 refine hK.out _ _ (hHeld.next hb') (fun hHeld2 => ?_)
 clear hb'
 clear hK K hHeld
 have hHeld := hHeld2
 clear hHeld2
 try simp only [Act.put, sA, sB, sC]
 refine rH [5] ?_
 refine aH 10 rfl fun K hK => ?_
 go_simp
 refine (HDg.out _).mono ?_
 rintro e w54 ⟨rfl, hb'⟩
 try replace HR : Kp _ := ⟨HR.out.below hb' HR.out.lt⟩
 try replace HW : Kp _ := ⟨HW.out.below hb' HW.out.lt⟩
 refine hK.out _ _ (hHeld.next hb') (fun hHeld2 => ?_)
 clear hb'
 clear hK K hHeld
 have hHeld := hHeld2
 clear hHeld2
 try simp only [Act.put, sA, sB, sC]
 refine rH [6] ?_
 refine AllReadyH.cons (o := ⟨none, _, _, _, _, _⟩) rfl (fun K hK => ?_) AllReadyH.nil
 refine step_store rwDig rfl (.tmp 4) (.tmp 10) rfl rfl rfl HR.out HLr.out (fit_all32 (l := zero32) rfl) (cells8_one _) ?_
 intro w55 hk ho
 refine hK.out _ _ (hHeld.only ho (by omega) (by omega) (by omega)) (fun hHeld2 => ?_)
 have HKf : Kp (Blk w55 gr 173 (cells8 L)) := ⟨by have h := hk; rw [store_all32 (n := 32) rfl] at h; exact h⟩
 clear hk ho
 clear hK K hHeld
 have hHeld := hHeld2
 clear hHeld2
 try simp only [Act.put]
 refine wpAnyH_done (by kernel_rfl) ?_ _
 go_wp2
 exact ret_arr rfl rwDig rfl HKf.out HLr.out rfl ⟨rfl, hHeld.below⟩
end Go.Proofs.YtcehkafddlfleaaGreatDoor
