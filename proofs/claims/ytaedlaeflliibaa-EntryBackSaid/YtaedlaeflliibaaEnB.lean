/- The contracts of place: the binary search, one by one, and place. -/
import Derived.Test.YtaedlaeflliibaaEnC
import Derived.Deep.LoopGhost
import Derived.Laws.EntriesVeiled
namespace Go.Proofs.Ytaedlaeflliibaa
open Go.RowKit

set_option maxRecDepth 100000 in
set_option maxHeartbeats 4000000 in
theorem bsearch_any (A : Option Addr) (n c : Nat) (l : List En) (nm : List UInt8) (bn bo : Nat) (w : World) (ha : Ens w w.heap.size A n c l) (hn : n ≤ 5864062014805) (hup : Up l)
    (hbn : bn < w.heap.size) (hbo : bo < w.heap.size) (hc : w.cell? ⟨bn, 0, none⟩ = some (.string ⟨nm.toArray⟩)) (hd : w.cell? ⟨bo, 0, none⟩ = some (.func (.func 51) #[] #[.pointer (some ⟨bn, 0, none⟩)])) :
    Calls Try.prog 53 #[.slice A n c, .int .i64 0, .func (.func 54) #[] #[.pointer (some ⟨bo, 0, none⟩)]] w
      fun e w' => e = .returned (.tuple #[.int .i64 ((placeE l nm).1 : Nat), .bool (placeE l nm).2]) ∧ Below w.heap.size w w' := by
  have HI : Kp _ := ⟨ha⟩
  have HL : Kp _ := ⟨ha.len⟩
  have HU : Kp _ := ⟨hup⟩
  have HO2 : Kp (∀ x wr, Below w.heap.size w wr → Calls Try.prog 54 #[.agg (enOne x).toArray, .int .i64 0, .pointer (some ⟨bo, 0, none⟩)] wr fun e w' => e = .returned (.int .i64 (cmpN x.1 nm)) ∧ Below wr.heap.size wr w') := ⟨fun x wr hb =>
    order2_any x nm bn bo wr (Nat.lt_of_lt_of_le hbn hb.size) (Nat.lt_of_lt_of_le hbo hb.size) ((hb.cell (p := ⟨bn, 0, none⟩) hbn).trans hc) ((hb.cell (p := ⟨bo, 0, none⟩) hbo).trans hd)⟩
  obtain ⟨pl, hpl⟩ : ∃ pl, pl = placeE l nm := ⟨_, rfl⟩
  rw [← hpl]
  have HP : Kp _ := ⟨hpl⟩
  clear ha hup hc hd hbn hbo hpl
  go_enter Try.func53, Try.ntmps53
  go_wp2
  go_loopg [9, 10] n (fun kx s9 s10 wr => ∃ lo hi : Nat, s9 = .int .i64 lo ∧ s10 = .int .i64 hi ∧ lo ≤ hi ∧ hi ≤ n ∧ hi - lo ≤ kx ∧ Kp (Below w.heap.size w wr) ∧
    Kp ((∀ j (hj : j < l.length), j < lo → l[j].1 < nm) ∧ (∀ j (hj : j < l.length), hi ≤ j → ¬ l[j].1 < nm)))
  case atStart => exact ⟨0, n, rfl, rfl, Nat.zero_le _, Nat.le_refl _, by omega, ⟨Below.refl _ _⟩, ⟨fun j _ h => by omega, fun j hj h => by have := HL.out; omega⟩⟩
  case round =>
    obtain ⟨lo, hi, rfl, rfl, hlh, hin, hg, HW, HR⟩ := hrel
    by_cases hlt : lo < hi
    · have hmn : (lo + hi) / 2 < n := by omega
      obtain ⟨b1, o1, rfl, _, c0, c1⟩ := (HI.out.below HW.out).at hmn
      have hml : (lo + hi) / 2 < l.length := by rw [HL.out]; exact hmn
      have HX : Kp (∀ j (hj : j < l.length), j = (lo + hi) / 2 → l[(lo + hi) / 2].1 = l[j].1) := ⟨fun j hj e => by subst e; rfl⟩
      have HM : Kp (∀ j (hj : j < l.length), j < (lo + hi) / 2 → l[j].1 < l[(lo + hi) / 2].1) := ⟨fun j hj h => HU.out.at h hml⟩
      have HM2 : Kp (∀ j (hj : j < l.length), (lo + hi) / 2 < j → l[(lo + hi) / 2].1 < l[j].1) := ⟨fun j hj h => HU.out.at h hj⟩
      have HC : Kp _ := ⟨HO2.out l[(lo + hi) / 2] wr HW.out⟩
      obtain ⟨⟨xn, z⟩, hx⟩ : ∃ x, l[(lo + hi) / 2] = x := ⟨_, rfl⟩
      rw [hx] at c0 c1 HX HM HM2 HC
      clear hx
      simp only at c0 c1 HX HM HM2
      have hcn := cmpN_neg (a := xn) (b := nm)
      generalize cmpN xn nm = q at *
      by_cases hq : q < 0
      · have hlx : xn < nm := hcn.1 hq
        clear hcn
        go_wp2_with (go_at_call 54; refine HC.out.mono ?_; rintro e w2 ⟨rfl, hb2⟩)
        have HW2 : Kp (Below w.heap.size w w2) := ⟨HW.out.trans (hb2.mono HW.out.size)⟩
        clear hb2
        go_wp2
        go_roundg (hi - ((lo + hi) / 2 + 1))
        case measure => omega
        case rel => exact ⟨(lo + hi) / 2 + 1, hi, by rw [show ((lo : Int) + (hi : Int)) / 2 + 1 = (((lo + hi) / 2 + 1 : Nat) : Int) by omega], rfl, by omega, hin, Nat.le_refl _, HW2, ⟨fun j hj h => by
          by_cases e : j = (lo + hi) / 2
          · rw [← HX.out j hj e]; exact hlx
          · exact u8lt_trans (HM.out j hj (by omega)) hlx, HR.out.2⟩⟩
      · have hlx : ¬ xn < nm := fun h => hq (hcn.2 h)
        clear hcn
        go_wp2_with (go_at_call 54; refine HC.out.mono ?_; rintro e w2 ⟨rfl, hb2⟩)
        have HW2 : Kp (Below w.heap.size w w2) := ⟨HW.out.trans (hb2.mono HW.out.size)⟩
        clear hb2
        go_wp2
        go_roundg ((lo + hi) / 2 - lo)
        case measure => omega
        case rel => exact ⟨lo, (lo + hi) / 2, rfl, by rw [show ((lo : Int) + (hi : Int)) / 2 = (((lo + hi) / 2 : Nat) : Int) by omega], by omega, by omega, Nat.le_refl _, HW2, ⟨HR.out.1, fun j hj h => by
          by_cases e : j = (lo + hi) / 2
          · rw [← HX.out j hj e]; exact hlx
          · exact fun h4 => hlx (u8lt_trans (HM2.out j hj (by omega)) h4)⟩⟩
    · obtain rfl : hi = lo := by omega
      have HPl : Kp _ := ⟨place_low HU.out (by rw [HL.out]; exact hin) HR.out.1 HR.out.2⟩
      by_cases hn2 : hi < n
      · obtain ⟨b1, o1, rfl, _, c0, c1⟩ := (HI.out.below HW.out).at hn2
        have hml : hi < l.length := by rw [HL.out]; exact hn2
        have HC : Kp _ := ⟨HO2.out l[hi] wr HW.out⟩
        have HPa : Kp (l[hi].1 = nm → pl = (hi, true)) := ⟨fun h => HP.out.trans (HPl.out.1 hml h)⟩
        have HPb : Kp (l[hi].1 ≠ nm → pl = (hi, false)) := ⟨fun h => HP.out.trans (HPl.out.2 fun _ => h)⟩
        obtain ⟨⟨xn, z⟩, hx⟩ : ∃ x, l[hi] = x := ⟨_, rfl⟩
        rw [hx] at c0 c1 HC HPa HPb
        clear hx
        simp only at c0 c1
        have hcz := cmpN_zero (a := xn) (b := nm)
        generalize cmpN xn nm = q at *
        by_cases hq : q = 0
        · have HPc : Kp (pl = (hi, true)) := ⟨HPa.out (hcz.1 hq)⟩
          subst hq
          clear hcz
          go_wp2_with (go_at_call 54; refine HC.out.mono ?_; rintro e w2 ⟨rfl, hb2⟩)
          have HW2 : Kp (Below w.heap.size w w2) := ⟨HW.out.trans (hb2.mono HW.out.size)⟩
          go_wp2
          go_ret2
          exact ⟨by rw [HPc.out]; rfl, HW2.out⟩
        · have HPc : Kp (pl = (hi, false)) := ⟨HPb.out fun e => hq (hcz.2 e)⟩
          have hqz : (q == 0) = false := by simpa using hq
          clear hcz
          go_wp2_with (go_at_call 54; refine HC.out.mono ?_; rintro e w2 ⟨rfl, hb2⟩)
          have HW2 : Kp (Below w.heap.size w w2) := ⟨HW.out.trans (hb2.mono HW.out.size)⟩
          go_wp2
          go_ret2
          exact ⟨by rw [HPc.out]; rfl, HW2.out⟩
      · have HPc : Kp (pl = (hi, false)) := ⟨HP.out.trans (HPl.out.2 fun h => absurd h (by rw [HL.out]; exact hn2))⟩
        go_wp2
        go_ret2
        exact ⟨by rw [HPc.out]; rfl, HW.out⟩
set_option maxRecDepth 100000 in
set_option maxHeartbeats 4000000 in
theorem onebyone_any (A : Option Addr) (n c : Nat) (l : List En) (nm : List UInt8) (bn : Nat) (w : World) (ha : Ens w w.heap.size A n c l)
    (hbn : bn < w.heap.size) (hc : w.cell? ⟨bn, 0, none⟩ = some (.string ⟨nm.toArray⟩)) :
    Calls Try.prog 55 #[.slice A n c, .func (.func 51) #[] #[.pointer (some ⟨bn, 0, none⟩)]] w
      fun e w' => e = .returned (.tuple #[.int .i64 ((placeE l nm).1 : Nat), .bool (placeE l nm).2]) ∧ Below w.heap.size w w' := by
  have hle := ha.le
  have HI : Kp _ := ⟨ha⟩
  have HL : Kp _ := ⟨ha.len⟩
  have HO : Kp (∀ x wr, Below w.heap.size w wr → Calls Try.prog 51 #[.agg (enOne x).toArray, .pointer (some ⟨bn, 0, none⟩)] wr fun e w' => e = .returned (.int .i64 (cmpN x.1 nm)) ∧ Below wr.heap.size wr w') := ⟨fun x wr hb =>
    order_any x nm bn wr (Nat.lt_of_lt_of_le hbn hb.size) ((hb.cell (p := ⟨bn, 0, none⟩) hbn).trans hc)⟩
  obtain ⟨pl, hpl⟩ : ∃ pl, pl = placeE l nm := ⟨_, rfl⟩
  rw [← hpl]
  have HP : Kp _ := ⟨hpl⟩
  clear ha hc hbn hpl
  go_enter Try.func55, Try.ntmps55
  go_wp2
  go_step3
  go_wp2
  go_step3
  go_wp2
  go_loopg [6, 14] n (fun gk s6 s14 wr => ∃ k m : Nat, k + gk = n ∧ s14 = .int .i64 k ∧ s6 = .int .i64 m ∧ m ≤ n ∧ Kp (Below w.heap.size w wr) ∧ Kp (∀ j (hj : j < l.length), j < k → l[j].1 ≠ nm) ∧
    Kp ((m = n ∧ ∀ j (hj : j < l.length), j < k → ¬ nm < l[j].1) ∨ (m < k ∧ (∀ hm : m < l.length, nm < l[m].1) ∧ ∀ j (hj : j < l.length), j < m → ¬ nm < l[j].1)))
  case atStart => exact ⟨0, n, by omega, rfl, rfl, Nat.le_refl _, ⟨Below.refl _ _⟩, ⟨fun j _ h => by omega⟩, ⟨.inl ⟨rfl, fun j _ h => by omega⟩⟩⟩
  case round =>
    obtain ⟨k, m, hkg, rfl, rfl, hmn, HW, HN, HA⟩ := hrel
    cases gk with
    | zero =>
      have hkn : k = n := by omega
      subst hkn
      have HPc : Kp (pl = (m, false)) := ⟨by
        have h0 : hasE l nm = false := hasE_false fun j hj => HN.out j hj (by have := HL.out; omega)
        have h1 : aboveE l nm = m := by
          rcases HA.out with ⟨rfl, h⟩ | ⟨h1, h2, h3⟩
          · exact find_of (by rw [HL.out]; exact Nat.le_refl _) (fun hh => absurd hh (by rw [HL.out]; omega)) (fun j hj h4 => by simpa using h j hj h4)
          · exact find_of (by rw [HL.out]; omega) (fun hh => by simpa using h2 hh) (fun j hj h4 => by simpa using h3 j hj h4)
        rw [HP.out, placeE, h0, h1]; rfl⟩
      go_wp2
      rw [Exit.noGoto_ret]
      go_ret2
      exact ⟨by rw [HPc.out]; rfl, HW.out⟩
    | succ g2 =>
      have hlt : k < n := by omega
      have hki : k < l.length := by rw [HL.out]; exact hlt
      have hgo : (k : Int) < (n : Int) := by omega
      obtain ⟨b1, o1, rfl, _, c0, c1⟩ := (HI.out.below HW.out).at hlt
      have HX : Kp (∀ j (hj : j < l.length), j = k → l[k].1 = l[j].1) := ⟨fun j hj e => by subst e; rfl⟩
      have HId : Kp (l[k].1 = nm → pl = (k, true)) := ⟨fun h => by
        have hi : idxE l nm = k := idxE_of hki h HN.out
        rw [HP.out, placeE, if_pos (idxE_lt.1 (by rw [hi]; exact hki)), hi]⟩
      obtain ⟨x, hx⟩ : ∃ x, l[k] = x := ⟨_, rfl⟩
      rw [hx] at c0 c1 HX HId
      have hcz := cmpN_zero (a := x.1) (b := nm)
      have hcn := cmpN_neg (a := x.1) (b := nm)
      have hrg := cmpN_range x.1 nm
      have HO1 : Kp _ := ⟨HO.out x⟩
      generalize hqv : cmpN x.1 nm = q at *
      have HNx : Kp (q ≠ 0 → ∀ j (hj : j < l.length), j < k + 1 → l[j].1 ≠ nm) := ⟨fun h j hj h2 => by
        by_cases e : j = k
        · rw [← HX.out j hj e]; exact fun h3 => h (hcz.2 h3)
        · exact HN.out j hj (by omega)⟩
      have HQa : Kp (q < 0 → ∀ j (hj : j < l.length), j = k → ¬ nm < l[j].1) := ⟨fun h j hj e h2 => by
        rw [← HX.out j hj e] at h2
        exact u8lt_irrefl _ (u8lt_trans (hcn.1 h) h2)⟩
      have HQb : Kp (¬ q < 0 → q ≠ 0 → ∀ hj : k < l.length, nm < l[k].1) := ⟨fun h h0 hj => by
        rw [hx]
        exact u8lt_tri (fun h2 => h (hcn.2 h2)) (fun e => h0 (hcz.2 e))⟩
      have HIq : Kp (q = 0 → pl = (k, true)) := ⟨fun h => HId.out (hcz.1 h)⟩
      clear hcz hcn hqv hx HId
      go_wp2_with (with_reducible refine wpList_alloc (o := ⟨some 8, _, _, _, _, _⟩) tyEn rfl rfl ?_)
      intro w3 hk3 hb3 _
      have HK3 : Kp _ := ⟨hk3⟩
      have HB3 : Kp _ := ⟨hb3⟩
      clear hk3 hb3
      go_wp2_with (with_reducible refine wpList_storeAll (o := ⟨none, _, _, _, _, _⟩) (vs := enOne x) rwEn rfl _ _ rfl rfl HK3.out rfl rfl (enOne_one _) rfl ?_)
      intro w4 hk4 ho4
      have HK4 : Kp _ := ⟨hk4⟩
      have HB4 : Kp (Below w.heap.size w w4) := ⟨(HW.out.trans (HB3.out.mono HW.out.size)).trans (ho4.below HW.out.size)⟩
      have HO2 : Kp _ := ⟨HO1.out w4 HB4.out⟩
      clear hk4 ho4 HK3 HB3 HO1 c0 c1
      by_cases h0 : q = 0
      · have HPc : Kp (pl = (k, true)) := ⟨HIq.out h0⟩
        subst h0
        go_wp2_with (first | (with_reducible refine wpList_loadAll (o := ⟨some 20, _, _, _, _, _⟩) rwEn rfl (.tmp 8) rfl rfl HK4.out rfl ?_) | (go_at_call 51; refine HO2.out.mono ?_; rintro e w2 ⟨rfl, hb2⟩))
        have HB5 : Kp (Below w.heap.size w w2) := ⟨HB4.out.trans (hb2.mono HB4.out.size)⟩
        clear hb2
        go_wp2
        rw [Exit.noGoto_ret]
        go_ret2
        exact ⟨by rw [HPc.out]; rfl, HB5.out⟩
      · have hqz : (q == 0) = false := by simpa using h0
        by_cases hneg : q < 0
        · go_wp2_with (first | (with_reducible refine wpList_loadAll (o := ⟨some 20, _, _, _, _, _⟩) rwEn rfl (.tmp 8) rfl rfl HK4.out rfl ?_) | (go_at_call 51; refine HO2.out.mono ?_; rintro e w2 ⟨rfl, hb2⟩))
          have HB5 : Kp (Below w.heap.size w w2) := ⟨HB4.out.trans (hb2.mono HB4.out.size)⟩
          clear hb2
          go_wp2
          go_roundg g2
          case measure => omega
          case rel => exact ⟨k + 1, m, by omega, by go_num, rfl, hmn, HB5, ⟨HNx.out h0⟩, ⟨by
            rcases HA.out with ⟨e, h⟩ | ⟨h1, h2, h3⟩
            · exact .inl ⟨e, fun j hj h4 => by
                by_cases e2 : j = k
                · exact HQa.out hneg j hj e2
                · exact h j hj (by omega)⟩
            · exact .inr ⟨by omega, h2, h3⟩⟩⟩
        · have hmin : min (m : Int) (k : Int) = ((min m k : Nat) : Int) := by omega
          go_wp2_with (first | (with_reducible refine wpList_loadAll (o := ⟨some 20, _, _, _, _, _⟩) rwEn rfl (.tmp 8) rfl rfl HK4.out rfl ?_) | (go_at_call 51; refine HO2.out.mono ?_; rintro e w2 ⟨rfl, hb2⟩))
          have HB5 : Kp (Below w.heap.size w w2) := ⟨HB4.out.trans (hb2.mono HB4.out.size)⟩
          clear hb2
          go_wp2
          go_roundg g2
          case measure => omega
          case rel => exact ⟨k + 1, min m k, by omega, by go_num, rfl, by omega, HB5, ⟨HNx.out h0⟩, ⟨by
            rcases HA.out with ⟨e, h⟩ | ⟨h1, h2, h3⟩
            · rw [show min m k = k by omega]
              exact .inr ⟨by omega, HQb.out hneg h0, h⟩
            · rw [show min m k = m by omega]
              exact .inr ⟨by omega, h2, h3⟩⟩⟩
set_option maxRecDepth 100000 in
set_option maxHeartbeats 4000000 in
theorem place_any (A : Option Addr) (n c : Nat) (l : List En) (nm : List UInt8) (w : World) (ha : Ens w w.heap.size A n c l) (hn : n ≤ 5864062014805) :
    Calls Try.prog 37 #[.slice A n c, .string ⟨nm.toArray⟩] w
      fun e w' => e = .returned (.tuple #[.int .i64 ((placeE l nm).1 : Nat), .bool (placeE l nm).2]) ∧ Below w.heap.size w w' := by
  have HI : Kp _ := ⟨ha⟩
  have hmf : ∀ (fn : Fn) (first cap : Array Value) (w : World), (Instr.makeFunc fn first cap).run Try.prog w = .ok (.func fn first cap) w := fun _ _ _ _ => rfl
  clear ha
  obtain ⟨pl, hpl⟩ : ∃ pl, pl = placeE l nm := ⟨_, rfl⟩
  have HB : Kp (∀ bn bo w1, Below w.heap.size w w1 → Up l → w.heap.size ≤ bn → bn < w1.heap.size → bo < w1.heap.size → w1.cell? ⟨bn, 0, none⟩ = some (.string ⟨nm.toArray⟩) → w1.cell? ⟨bo, 0, none⟩ = some (.func (.func 51) #[] #[.pointer (some ⟨bn, 0, none⟩)]) →
      Calls Try.prog 53 #[.slice A n c, .int .i64 0, .func (.func 54) #[] #[.pointer (some ⟨bo, 0, none⟩)]] w1
      fun e w' => e = .returned (.tuple #[.int .i64 (pl.1 : Nat), .bool pl.2]) ∧ Below w.heap.size w w') := ⟨fun bn bo w1 hb hup _ h1 h2 h3 h4 => by
    rw [hpl]
    exact (bsearch_any A n c l nm bn bo w1 ((HI.out.below hb).more hb.size) hn hup h1 h2 h3 h4).mono fun e w' ⟨he, hb'⟩ => ⟨he, hb.trans (hb'.mono hb.size)⟩⟩
  have HO : Kp (∀ bn w1, Below w.heap.size w w1 → bn < w1.heap.size → w1.cell? ⟨bn, 0, none⟩ = some (.string ⟨nm.toArray⟩) →
      Calls Try.prog 55 #[.slice A n c, .func (.func 51) #[] #[.pointer (some ⟨bn, 0, none⟩)]] w1
      fun e w' => e = .returned (.tuple #[.int .i64 (pl.1 : Nat), .bool pl.2]) ∧ Below w.heap.size w w') := ⟨fun bn w1 hb h1 h3 => by
    rw [hpl]
    exact (onebyone_any A n c l nm bn w1 ((HI.out.below hb).more hb.size) h1 h3).mono fun e w' ⟨he, hb'⟩ => ⟨he, hb.trans (hb'.mono hb.size)⟩⟩
  rw [← hpl]
  have HU : Kp _ := ⟨riseL_up l⟩
  clear hpl
  obtain ⟨W2, hW2⟩ : ∃ W2, W2 = ((w.alloc (.cells #[.string ⟨nm.toArray⟩] 9)).alloc (.cells #[.func (.func 51) #[] #[.pointer (some ⟨w.heap.size, 0, none⟩)]] 76)) := ⟨_, rfl⟩
  have hk2 : Blk W2 (w.heap.size + 1) 76 [.func (.func 51) #[] #[.pointer (some ⟨w.heap.size, 0, none⟩)]] := by
    have h := Blk.new (w.alloc (.cells #[.string ⟨nm.toArray⟩] 9)) 76 [.func (.func 51) #[] #[.pointer (some ⟨w.heap.size, 0, none⟩)]]
    rw [World.size_alloc] at h
    rw [hW2]; exact h
  have hk1 : Blk W2 w.heap.size 9 [.string ⟨nm.toArray⟩] := by rw [hW2]; exact (Blk.new w 9 [.string ⟨nm.toArray⟩]).alloc _
  have hb2 : Below w.heap.size w W2 := by rw [hW2]; exact ((Below.refl _ _).alloc (Nat.le_refl _) _).alloc (by simp) _
  have HK1 : Kp _ := ⟨hk1⟩
  have HK2 : Kp _ := ⟨hk2⟩
  have HB2 : Kp _ := ⟨hb2⟩
  have HW2 : Kp _ := ⟨hW2⟩
  have HR : Kp _ := ⟨rise_any A n c l W2 w.heap.size (HI.out.below hb2)⟩
  clear hk1 hk2 hb2 hW2
  cases hr : riseL l with
  | true =>
    rw [hr] at HR
    have HUp := HU.out.1 hr
    go_enter Try.func37, Try.ntmps37
    go_wp2_with fail
    rw [← HW2.out]
    refine HR.out.mono ?_
    rintro e w3 ⟨rfl, hb3⟩
    have hb3' := hb3 W2.heap.size
    have hB3 : Below w.heap.size w w3 := HB2.out.trans (hb3 _)
    have k1 := HK1.out.below hb3' HK1.out.lt
    have k2 := HK2.out.below hb3' HK2.out.lt
    have HC : Kp _ := ⟨HB.out w.heap.size (w.heap.size + 1) w3 hB3 HUp (Nat.le_refl _) k1.lt k2.lt (k1.cell? 0) (k2.cell? 0)⟩
    clear hb3 hb3' hB3 k1 k2
    go_wp2_with (go_at_call 53; refine HC.out.mono ?_; rintro e w4 ⟨rfl, hb4⟩)
    have HB4 : Kp _ := ⟨hb4⟩
    go_wp2
    go_ret2
    exact ⟨by first | rfl | simp, HB4.out⟩
  | false =>
    rw [hr] at HR
    go_enter Try.func37, Try.ntmps37
    go_wp2_with fail
    rw [← HW2.out]
    refine HR.out.mono ?_
    rintro e w3 ⟨rfl, hb3⟩
    have hb3' := hb3 W2.heap.size
    have hB3 : Below w.heap.size w w3 := HB2.out.trans (hb3 _)
    have k1 := HK1.out.below hb3' HK1.out.lt
    have k2 := HK2.out.below hb3' HK2.out.lt
    have HC : Kp _ := ⟨HO.out w.heap.size w3 hB3 k1.lt (k1.cell? 0)⟩
    have c2 : w3.cell? ⟨w.heap.size + 1, 0, none⟩ = some (.func (.func 51) #[] #[.pointer (some ⟨w.heap.size, 0, none⟩)]) := k2.cell? 0
    clear hb3 hb3' hB3 k1 k2
    go_wp2_with (go_at_call 55; refine HC.out.mono ?_; rintro e w4 ⟨rfl, hb4⟩)
    have HB4 : Kp _ := ⟨hb4⟩
    go_wp2
    go_ret2
    exact ⟨by first | rfl | simp, HB4.out⟩
end Go.Proofs.Ytaedlaeflliibaa
