/- The contract of Encode. -/
import Derived.Test.YtaedlaeflliibaaEnY
namespace Go.Proofs.Ytaedlaeflliibaa
open Go.RowKit Go.Deep

def encC (l : List En) : Int := if rightE l then 0 else 2
def encR (l : List En) : List UInt8 := if rightE l then encL l else []
theorem encL_next {l : List En} {k : Nat} (h : k < l.length) : encL (l.take (k + 1)) = encL (l.take k) ++ enc1 l[k] := by
  unfold encL
  rw [List.take_succ_eq_append_getElem h, List.map_append, List.flatten_append]; simp
theorem encL_len {l : List En} (h : ∀ x ∈ l, x.1.length ≤ 27) : (encL l).length = 32 * l.length := by
  induction l with
  | nil => rfl
  | cons x l ih =>
    have h1 := enc1_len (h x (List.mem_cons_self ..))
    have h2 := ih fun y hy => h y (List.mem_cons_of_mem _ hy)
    have e : encL (x :: l) = enc1 x ++ encL l := by simp [encL]
    rw [e, List.length_append, h1, h2, List.length_cons]; omega
theorem okE_b {x : En} (h : okE x = true) : x.1.length ≤ 27 ∧ 1 ≤ x.2 ∧ x.2 ≤ 65535 := by
  unfold okE at h
  simp only [Bool.and_eq_true, decide_eq_true_eq] at h
  exact ⟨(okNm_len _ h.1.1).2, h.1.2, h.2⟩
theorem right_all {l : List En} (h : rightE l = true) : l.length ≤ 560 ∧ ∀ x ∈ l, okE x = true := by
  unfold rightE at h
  simp only [Bool.and_eq_true, decide_eq_true_eq] at h
  exact ⟨h.1.1, fun x hx => List.all_eq_true.1 h.2 x hx⟩
set_option maxRecDepth 100000 in
set_option maxHeartbeats 4000000 in
theorem encode_any (A : Option Addr) (n c : Nat) (l : List En) (w : World) (ha : Ens w w.heap.size A n c l) :
    Calls Try.prog 13 #[.slice A n c] w fun e w' => ∃ A' n' c', e = .returned (.tuple #[.slice A' n' c', .int .i64 (encC l)]) ∧ Bs w' w'.heap.size A' n' c' (encR l) ∧ Below w.heap.size w w' := by
  have hle := ha.le
  have HI : Kp _ := ⟨ha⟩
  have HL : Kp _ := ⟨ha.len⟩
  have HR : Kp _ := ⟨right_any A n c l w ha⟩
  clear ha
  cases hr : rightE l with
  | false =>
    rw [hr] at HR
    have HC : Kp (encC l = 2 ∧ encR l = []) := ⟨by unfold encC encR; rw [hr]; exact ⟨rfl, rfl⟩⟩
    rw [HC.out.1, HC.out.2]
    go_enter Try.func13, Try.ntmps13
    go_wp2_with fail
    refine HR.out.mono ?_
    rintro e w1 ⟨rfl, hb1⟩
    go_wp2
    go_ret2
    exact ⟨none, 0, 0, rfl, Bs.zero _ _, hb1⟩
  | true =>
    rw [hr] at HR
    have HC : Kp (encC l = 0 ∧ encR l = encL l) := ⟨by unfold encC encR; rw [hr]; exact ⟨rfl, rfl⟩⟩
    rw [HC.out.1, HC.out.2]
    have hall := right_all hr
    have hn5 : n ≤ 560 := by rw [← HL.out]; exact hall.1
    have HOk : Kp (∀ x ∈ l, x.1.length ≤ 27 ∧ 1 ≤ x.2 ∧ x.2 ≤ 65535) := ⟨fun x hx => okE_b (hall.2 x hx)⟩
    have HLn : Kp (∀ k, k ≤ l.length → (encL (l.take k)).length = 32 * k) := ⟨fun k hk => by
      rw [encL_len fun x hx => (HOk.out x (List.mem_of_mem_take hx)).1]
      simp; omega⟩
    clear hall
    go_enter Try.func13, Try.ntmps13
    go_wp2_with fail
    refine HR.out.mono ?_
    rintro e w1 ⟨rfl, hb1⟩
    have HI1 : Kp _ := ⟨HI.out.next hb1 (Nat.le_refl _)⟩
    have HB1 : Kp _ := ⟨hb1⟩
    clear hb1 HI HR
    go_wp2_with (refine wpList_mk0 el8 rfl _ _ rfl w1.heap.size _ _ _ (n * 32) rfl rfl (by simp) (by omega) (by simp only [maxLen]; omega) (Nat.le_refl _) ?_)
    intro w2 H2 hB2
    have HO : Kp (w2.ownsRow w1.heap.size 5 1 (.slice (some ⟨w1.heap.size, 0, none⟩) 0 (n * 32)) 0 []) := ⟨H2.out⟩
    have HB2 : Kp _ := ⟨hB2⟩
    have H0 : Kp (encL (l.take 0) = []) := ⟨by simp [encL]⟩
    have HNx : Kp (∀ k (h : k < l.length), encL (l.take (k + 1)) = encL (l.take k) ++ enc1 l[k]) := ⟨fun k h => encL_next h⟩
    have HEnd : Kp (l.take n = l) := ⟨List.take_of_length_le (by rw [HL.out]; exact Nat.le_refl _)⟩
    clear H2 hB2
    go_wp2
    go_loopg [4, 16] n (fun gk v4 v16 wr => ∃ k : Nat, k + gk = n ∧ v16 = .int .i64 k ∧ Kp (wr.ownsRow w1.heap.size 5 1 v4 (32 * k) (cells8 (encL (l.take k)))) ∧ Kp (Below w1.heap.size w1 wr))
    case atStart => exact ⟨0, by omega, rfl, ⟨by rw [H0.out]; exact HO.out⟩, HB2⟩
    case round =>
      obtain ⟨k, hkg, rfl, HK, HW⟩ := hrel
      cases gk with
      | zero =>
        have hend : ¬ ((k : Int) < (n : Int)) := by omega
        obtain rfl : k = n := by omega
        rw [HEnd.out] at HK
        obtain ⟨A9, c9, rfl, h9⟩ := Bs.of_own HK.out
        have H9 : Kp _ := ⟨h9⟩
        have HB9 : Kp (Below w.heap.size w wr) := ⟨HB1.out.trans (HW.out.mono HB1.out.size)⟩
        clear h9 HK
        go_wp2
        go_ret2
        exact ⟨_, _, _, rfl, H9.out, HB9.out⟩
      | succ g2 =>
        have hgo : (k : Int) < (n : Int) := by omega
        have hlt : k < n := by omega
        have hkl : k < l.length := by rw [HL.out]; exact hlt
        obtain ⟨b1, o1, rfl, _, c0, c1⟩ := (HI1.out.below HW.out).at hlt
        have hok := HOk.out _ (List.getElem_mem hkl)
        have HN1 : Kp _ := ⟨HNx.out k hkl⟩
        obtain ⟨x, hx⟩ : ∃ x, l[k] = x := ⟨_, rfl⟩
        rw [hx] at c0 c1 hok HN1
        have HE32 : Kp ((enc1 x).length = 32) := ⟨enc1_len hok.1⟩
        have HKp : Kp (∀ W, _) := ⟨fun W => kept_any x W hok.1 (by omega) hok.2.2⟩
        clear hx hok
        go_wp2_with (with_reducible refine wpList_alloc (o := ⟨some 6, _, _, _, _, _⟩) tyEn rfl rfl ?_)
        intro w3 hk3 hb3 _
        have HK3 : Kp _ := ⟨hk3⟩
        have HB3 : Kp _ := ⟨hb3⟩
        clear hk3 hb3
        go_wp2_with (with_reducible refine wpList_storeAll (o := ⟨none, _, _, _, _, _⟩) (vs := enOne x) rwEn rfl _ _ rfl rfl HK3.out rfl rfl (enOne_one _) rfl ?_)
        intro w4 hk4 ho4
        have HK4 : Kp _ := ⟨hk4⟩
        have hb4 : Below wr.heap.size wr w4 := HB3.out.trans (ho4.below (Nat.le_refl _))
        have HO4 : Kp _ := ⟨own_below HK.out hb4⟩
        have HW4 : Kp (Below w1.heap.size w1 w4) := ⟨HW.out.trans (hb4.mono HW.out.size)⟩
        clear hk4 ho4 hb4 HK3 HB3 HK HW c0 c1
        go_wp2_with (with_reducible refine wpList_loadAll (o := ⟨some 21, _, _, _, _, _⟩) rwEn rfl (.tmp 6) rfl rfl HK4.out rfl ?_)
        refine (HKp.out _).mono ?_
        rintro e w5 ⟨A5, c5, rfl, h5, hb5⟩
        have HO5 : Kp _ := ⟨own_below HO4.out hb5⟩
        have HW5 : Kp (Below w1.heap.size w1 w5) := ⟨HW4.out.trans (hb5.mono HW4.out.size)⟩
        have H5 : Kp _ := ⟨h5⟩
        clear h5 hb5 HO4 HW4 HK4
        go_wp2_with (at_builtin; refine wpList_app el8 rfl _ _ rfl w1.heap.size _ (32 * k) _ rfl HO5.out A5 32 c5 (cells8 (enc1 x)) rfl (by rw [cells8_length, HE32.out]) (fun h => by have h1 := H5.out.nil h; have h2 := H5.out.cap; omega) H5.out.news (cells8_one _) (by simp only [maxLen]; omega) (by omega) HW5.out.size ?_)
        intro v6 w6 hown6 hg6 _
        have HB6 : Kp (Below w1.heap.size w1 w6) := ⟨HW5.out.trans (below_of_grown HO5.out HW5.out.size hg6)⟩
        have HO6 : Kp (w6.ownsRow w1.heap.size 5 1 v6 (32 * (k + 1)) (cells8 (encL ((l).take (k + 1))))) := ⟨by rw [HN1.out, cells8_append]; exact hown6⟩
        clear hown6 hg6 HO5 HW5 H5
        go_wp2
        go_roundg g2
        case measure => omega
        case rel => exact ⟨k + 1, by omega, by go_num, HO6, HB6⟩
end Go.Proofs.Ytaedlaeflliibaa
