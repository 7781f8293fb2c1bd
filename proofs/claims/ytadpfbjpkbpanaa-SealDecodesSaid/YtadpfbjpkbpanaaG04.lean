/- The contract of Right.
   Lists of byte slices that a call makes: rows of slices, and what their slices read as; fields by their widths. No program is named here.
   Rows of numbers that a call makes; fields by how long each is. No program is named here.
   The slices that a list of byte slices holds, as values. No program is named here.
   What write's closure gathers: a variable that holds byte slices; the closure's contract.
   Bytes of a constant text, as the walk meets them: the row is laid, and marked. No program is named here.
   '[]byte("..")' of a constant text in a region that draws its order: the row is marked where it lies. No program is named here.
   The contracts of slices.Clone over bytes and over digests.
   What stays true of the world over a region that draws its order; lists of slices that have just been laid. No program is named here.
   The contracts of package sha's small functions on words. -/
import Derived.Test.YtadpfbjpkbpanaaG03
import Derived.Test.YtadpfbjpkbpanaaG01
import Derived.Lib.SlBytesConst
import Derived.Test.YtadpfbjpkbpanaaG02
import Derived.Deep.RegionHeld3
namespace Go.Proofs.Ytadpfbjpkbpanaa
open Go.RowKit

abbrev rcL (num : Nat) (blk : Int) (A : Option Addr) (n c : Nat) (D : Option Addr) (m e : Nat) : List Value := [.int .u64 num, .int .i64 blk, .slice A n c, .slice D m e]
abbrev rcZ : List Value := [.int .u64 0, .int .i64 0, .slice none 0 0, .slice none 0 0]
theorem tySeal : Ty Try.prog 26 rcZ := ⟨by kernel_rfl⟩
theorem rwSeal : Rw Try.prog 26 (match (Try.prog).underlying 26 with | some d => d | none => .bool) 4 := ⟨by kernel_rfl, by kernel_rfl, by kernel_rfl⟩
theorem groups_nat (b : Nat) : groupsI (b : Int) 8 = (((b + 7) / 8 : Nat) : Int) := by unfold groupsI; split <;> omega
theorem parts_nat (b : Nat) : partsI (b : Int) = (((b + 15) / 16 : Nat) : Int) := by unfold partsI; split <;> omega
theorem g8_any (b G : Nat) (w : World) (hb : b ≤ 4294967296) (hG : (b + 7) / 8 = G) :
    Calls Try.prog 34 #[.int .i64 b, .int .i64 8] w fun x w' => x = .returned (.int .i64 (G : Int)) ∧ w' = w := by
  rw [← hG, ← groups_nat]
  exact groups8_any b w (by omega)
theorem p16_any (b G : Nat) (w : World) (hb : b ≤ 4294967296) (hG : (b + 15) / 16 = G) :
    Calls Try.prog 27 #[.int .i64 b] w fun x w' => x = .returned (.int .i64 (G : Int)) ∧ w' = w := by
  rw [← hG, ← parts_nat]
  exact parts_any b w (by omega)
theorem rp16_any (b G : Nat) (w : World) (hb : b ≤ 4096) (hG : (b + 15) / 16 = G) :
    Calls Try.prog 28 #[.int .i64 b] w fun x w' => x = .returned (.int .i64 (G : Int)) ∧ w' = w := by
  rw [← hG, ← parts_nat]
  exact refparts_any b w (by omega)
theorem rt_range {r : Rc} (h : r.blk < 0 ∨ 4096 < r.blk) : decide (Rt r) = false := decide_eq_false fun ht => by have := ht.lo; have := ht.hi; omega
theorem rt_sl {r : Rc} (h : r.sl.length ≠ (r.blk.toNat + 7) / 8) : decide (Rt r) = false := decide_eq_false fun ht => h ht.sl
theorem rt_su {r : Rc} (h : r.su.length ≠ (r.blk.toNat + 15) / 16) : decide (Rt r) = false := decide_eq_false fun ht => h ht.su
theorem rt_bit {r : Rc} (i : Nat) (h1 : r.blk.toNat ≤ i) (h2 : i < 8 * r.sl.length) (h : slotN r.sl i ≠ 0) : decide (Rt r) = false := decide_eq_false fun ht => h (ht.zero i h1 h2)
theorem slotI_nat (l : List UInt8) (k : Nat) : slotI l (k : Int) = slotN l k := by unfold slotI; rw [if_neg (by omega), Int.toNat_natCast]

set_option maxRecDepth 100000 in
set_option maxHeartbeats 2000000 in
theorem right_any (r : Rc) (A : Option Addr) (n c : Nat) (D : Option Addr) (m e : Nat) (w : World) (hR : Rs w w.heap.size A n c D m e r) :
    Calls Try.prog 15 #[rcV r A n c D m e] w fun x w' => x = .returned (.bool (decide (Rt r))) ∧ Below w.heap.size w w' := by
  obtain ⟨num, blk, sl, su⟩ := r
  have HR : Kp _ := ⟨hR⟩
  have hlo := hR.blk.1
  have hhi := hR.blk.2
  by_cases hb : blk < 0 ∨ 4096 < blk
  · have HG : Kp (decide (Rt ⟨num, blk, sl, su⟩) = false) := ⟨rt_range hb⟩
    clear hR hlo hhi
    rcases hb with hb | hb
    all_goals
      go_enter Try.func15, Try.ntmps15
      go_wp2_with (with_reducible refine wpList_box (o := ⟨some 1, _, _, _, _, _⟩) (cs := rcL num blk A n c D m e) rfl (.tmp 0) rfl rfl ?_)
      intro w1 hk1 hb1 hs1
      have e1 : w1.cell? ⟨w.heap.size, 1, none⟩ = some (.int .i64 blk) := hk1.cell? 1
      have HB1 : Kp _ := ⟨hb1⟩
      clear hk1 hb1 hs1
      go_wp2
      go_ret
      exact ⟨ret_eq (by rw [HG.out]; rfl), HB1.out⟩
  · obtain ⟨b, rfl⟩ : ∃ b : Nat, blk = (b : Int) := ⟨blk.toNat, by omega⟩
    have hb4 : b ≤ 4096 := by omega
    obtain ⟨G, hG⟩ : ∃ G, (b + 7) / 8 = G := ⟨_, rfl⟩
    obtain ⟨N, hN⟩ : ∃ N, (b + 15) / 16 = N := ⟨_, rfl⟩
    have HGG : Kp _ := ⟨hG⟩
    have HNN : Kp _ := ⟨hN⟩
    have HB4 : Kp (b ≤ 4294967296) := ⟨by omega⟩
    have hGb : b ≤ 8 * G ∧ G ≤ 520 := by omega
    have hlsl : sl.length = n := hR.sl.len
    have hlsu : su.length = m := hR.su.len
    have hn63 := hR.sl.le
    have hm63 := hR.su.le
    have HLn : Kp _ := ⟨hlsl⟩
    clear hR hb hlo hhi
    by_cases h1 : n = G
    · by_cases h2 : m = N
      · have HRT : Kp ((∀ i, b ≤ i → i < 8 * n → slotN sl i = 0) → decide (Rt ⟨num, (b : Int), sl, su⟩) = true) := ⟨fun h => decide_eq_true ⟨by simp, by simp; omega, by simp; omega, by simp; omega, by simpa [hlsl] using h⟩⟩
        subst h1 h2
        clear hlsl hlsu hm63 hG hN hn63
        go_enter Try.func15, Try.ntmps15
        go_wp2_with (with_reducible refine wpList_box (o := ⟨some 1, _, _, _, _, _⟩) (cs := rcL num b A n c D m e) rfl (.tmp 0) rfl rfl ?_)
        intro w1 hk1 hb1 hs1
        have e1 : w1.cell? ⟨w.heap.size, 1, none⟩ = some (.int .i64 b) := hk1.cell? 1
        have e2 : w1.cell? ⟨w.heap.size, 2, none⟩ = some (.slice A n c) := hk1.cell? 2
        have e3 : w1.cell? ⟨w.heap.size, 3, none⟩ = some (.slice D m e) := hk1.cell? 3
        have HB1 : Kp _ := ⟨hb1⟩
        have HK1 : Kp _ := ⟨hk1⟩
        clear hk1 hb1 hs1
        go_wp2_with fail
        refine wp_region_still_lit (by kernel_rfl) (by kernel_rfl) ?_
        repeat (first | still_step | still_call (g8_any b n _ HB4.out HGG.out) | still_call (p16_any b m _ HB4.out HNN.out))
        with_reducible refine wpStill_nil ?_
        change Exit.then _ _ _ _ w1.drew
        go_wp2
        go_loopw [3] (fun i wr => ∃ k : Nat, b ≤ k ∧ k ≤ 8 * n ∧ i = .int .i64 k ∧ Hid (∀ i, b ≤ i → i < k → slotN sl i = 0) ∧ Below w1.heap.size w1 wr) (fun i _ => 8 * n - (intOf i).toNat)
        case atStart => exact ⟨b, Nat.le_refl _, hGb.1, rfl, (fun i h1 h2 => absurd h2 (by omega)), (Below.refl _ _).drew⟩
        case round =>
          obtain ⟨k, hbk, hk, rfl, hz, hbr⟩ := hrel
          have HZ : Kp _ := ⟨hz⟩
          have hlt1 : w.heap.size < w1.heap.size := HK1.out.lt
          have HKr : Kp _ := ⟨HK1.out.below hbr hlt1⟩
          have HBr : Kp (Below w.heap.size w wr) := ⟨HB1.out.trans (hbr.mono (Nat.le_of_lt hlt1))⟩
          have HBr1 : Kp _ := ⟨hbr⟩
          have e2 : wr.cell? ⟨w.heap.size, 2, none⟩ = some (.slice A n c) := HKr.out.cell? 2
          clear hz hbr e1 e3
          by_cases hlt : k < 8 * n
          · have HRr : Kp (Rs wr wr.heap.size A n c D m e ⟨num, (b : Int), sl, su⟩) := ⟨(HR.out.below HBr.out).more HBr.out.size⟩
            have HK9 : Kp (-9223372036854775808 ≤ (k : Int) ∧ (k : Int) < 9223372036854775808) := ⟨by omega⟩
            by_cases hs : slotN sl k = 0
            · have HV : Kp (slotI sl (k : Int) = 0) := ⟨by rw [slotI_nat, hs]⟩
              have HZ2 : Kp (∀ i, b ≤ i → i < k + 1 → slotN sl i = 0) := ⟨fun i h1 h2 => by
                rcases Nat.lt_or_ge i k with h3 | h3
                · exact HZ.out i h1 h3
                · obtain rfl : i = k := by omega
                  exact hs⟩
              clear hs HZ
              go_wp2_with (with_reducible refine wpList_loadAll (o := ⟨some 38, _, _, _, _, _⟩) rwSeal rfl (.tmp 1) rfl rfl HKr.out rfl ?_)
              refine (slot_any ⟨num, (b : Int), sl, su⟩ A n c D m e (k : Int) wr HRr.out HK9.out).mono ?_
              rintro x w2 ⟨rfl, hb2⟩
              have hx : slotI (Rc.sl ⟨num, (b : Int), sl, su⟩) (k : Int) = 0 := HV.out
              rw [hx]
              have HB2 : Kp (Below w1.heap.size w1 w2) := ⟨HBr1.out.trans (hb2.mono HBr1.out.size)⟩
              clear hx hb2 e2
              go_wp2
              go_roundw
              case rel => exact ⟨k + 1, by omega, by omega, by go_num, HZ2.out, HB2.out⟩
              case measure => simp [intOf]; omega
            · have HG : Kp (decide (Rt ⟨num, (b : Int), sl, su⟩) = false) := ⟨rt_bit k (by simpa using hbk) (by simp [HLn.out]; exact hlt) hs⟩
              obtain ⟨v, hv⟩ : ∃ v, slotN sl k = v := ⟨_, rfl⟩
              have hv0 : ¬ v = 0 := by rw [← hv]; exact hs
              have hv2 : v < 2 := by rw [← hv]; exact Nat.mod_lt _ (by omega)
              have HV : Kp (slotI sl (k : Int) = v) := ⟨by rw [slotI_nat, hv]⟩
              clear hs hv HZ
              go_wp2_with (with_reducible refine wpList_loadAll (o := ⟨some 38, _, _, _, _, _⟩) rwSeal rfl (.tmp 1) rfl rfl HKr.out rfl ?_)
              refine (slot_any ⟨num, (b : Int), sl, su⟩ A n c D m e (k : Int) wr HRr.out HK9.out).mono ?_
              rintro x w2 ⟨rfl, hb2⟩
              have hx : slotI (Rc.sl ⟨num, (b : Int), sl, su⟩) (k : Int) = v := HV.out
              rw [hx]
              have HB2 : Kp (Below w.heap.size w w2) := ⟨HBr.out.trans (hb2.mono HBr.out.size)⟩
              clear hx hb2 e2
              go_wp2
              go_ret
              exact ⟨ret_eq (by rw [HG.out]; rfl), HB2.out⟩
          · obtain rfl : k = 8 * n := by omega
            go_wp2
            go_ret
            exact ⟨ret_eq (by rw [HRT.out HZ.out]; rfl), HBr.out⟩
      · have HG : Kp (decide (Rt ⟨num, (b : Int), sl, su⟩) = false) := ⟨rt_su (by simp; omega)⟩
        subst h1
        clear hlsl hlsu hG hN hn63
        go_enter Try.func15, Try.ntmps15
        go_wp2_with (with_reducible refine wpList_box (o := ⟨some 1, _, _, _, _, _⟩) (cs := rcL num b A n c D m e) rfl (.tmp 0) rfl rfl ?_)
        intro w1 hk1 hb1 hs1
        have e1 : w1.cell? ⟨w.heap.size, 1, none⟩ = some (.int .i64 b) := hk1.cell? 1
        have e2 : w1.cell? ⟨w.heap.size, 2, none⟩ = some (.slice A n c) := hk1.cell? 2
        have e3 : w1.cell? ⟨w.heap.size, 3, none⟩ = some (.slice D m e) := hk1.cell? 3
        have HB1 : Kp _ := ⟨hb1⟩
        clear hk1 hb1 hs1
        go_wp2_with fail
        refine wp_region_still_lit (by kernel_rfl) (by kernel_rfl) ?_
        repeat (first | still_step | still_call (g8_any b n _ HB4.out HGG.out) | still_call (p16_any b N _ HB4.out HNN.out))
        with_reducible refine wpStill_nil ?_
        go_wp2
        go_ret
        exact ⟨ret_eq (by rw [HG.out]; rfl), HB1.out.drew⟩
    · have HG : Kp (decide (Rt ⟨num, (b : Int), sl, su⟩) = false) := ⟨rt_sl (by simp; omega)⟩
      have hq : ((n : Int) != (G : Int)) = true := by simp; omega
      clear hlsl hlsu hG hN hm63
      go_enter Try.func15, Try.ntmps15
      go_wp2_with (with_reducible refine wpList_box (o := ⟨some 1, _, _, _, _, _⟩) (cs := rcL num b A n c D m e) rfl (.tmp 0) rfl rfl ?_)
      intro w1 hk1 hb1 hs1
      have e1 : w1.cell? ⟨w.heap.size, 1, none⟩ = some (.int .i64 b) := hk1.cell? 1
      have e2 : w1.cell? ⟨w.heap.size, 2, none⟩ = some (.slice A n c) := hk1.cell? 2
      have HB1 : Kp _ := ⟨hb1⟩
      clear hk1 hb1 hs1
      go_wp2_with fail
      refine wp_region_still_lit (by kernel_rfl) (by kernel_rfl) ?_
      repeat (first | (with_reducible refine wpStill_step (fun K hK => ?_); go_simp; with_reducible refine hK _ ?_; clear hK K) | still_call (g8_any b G _ HB4.out HGG.out))
      with_reducible refine wpStill_nil ?_
      go_wp2
      go_ret
      exact ⟨ret_eq (by rw [HG.out]; rfl), HB1.out.drew⟩
end Go.Proofs.Ytadpfbjpkbpanaa

namespace Go.Proofs.Ytadpfbjpkbpanaa
open Go.RowKit

/-- The values are slices that read as the lists fs; those that have anything lie below B, and not in block g. -/
structure Fs (w : World) (B : Nat) (g : Option Nat) (vals : List Value) (fs : List (List UInt8)) : Prop where
  len : vals.length = fs.length
  at' : ∀ j (h1 : j < vals.length) (h2 : j < fs.length), ∃ A n c, vals[j] = .slice A n c ∧ Bs w B A n c fs[j] ∧ ∀ ad, A = some ad → 0 < n → g ≠ some ad.block
section
variable {w w' : World} {B B' : Nat} {g : Option Nat} {vals : List Value} {fs : List (List UInt8)}
theorem Fs.zero (w : World) (B : Nat) (g : Option Nat) : Fs w B g [] [] := ⟨rfl, fun j h _ => absurd h (by simp)⟩
theorem Fs.below (h : Fs w B g vals fs) (hb : Below B w w') : Fs w' B g vals fs :=
  ⟨h.len, fun j h1 h2 => by
    obtain ⟨A, n, c, e, hbs, hg⟩ := h.at' j h1 h2
    exact ⟨A, n, c, e, hbs.below hb, hg⟩⟩
theorem Fs.more (h : Fs w B g vals fs) (hB : B ≤ B') : Fs w B' g vals fs :=
  ⟨h.len, fun j h1 h2 => by
    obtain ⟨A, n, c, e, hbs, hg⟩ := h.at' j h1 h2
    exact ⟨A, n, c, e, hbs.more hB, hg⟩⟩
theorem Bs.grown {g : Option Nat} {A : Option Addr} {n c : Nat} {l : List UInt8} (h : Bs w B A n c l) (hk : ∀ k, g ≠ some k → k < B → w'.heap[k]? = w.heap[k]?) (hg : ∀ ad, A = some ad → 0 < n → g ≠ some ad.block) : Bs w' B A n c l :=
  ⟨h.len, h.cap, h.max, h.nil, fun h0 => by
    obtain ⟨b, o, hA, hb, hc⟩ := h.cells h0
    refine ⟨b, o, hA, hb, fun j hj => ?_⟩
    rw [← hc j hj]
    exact World.cell?_of_block (w := w) (hk b (hg _ hA h0) hb)⟩
theorem Fs.grown (h : Fs w B g vals fs) (hk : ∀ k, g ≠ some k → k < B → w'.heap[k]? = w.heap[k]?) : Fs w' B g vals fs :=
  ⟨h.len, fun j h1 h2 => by
    obtain ⟨A, n, c, e, hbs, hg⟩ := h.at' j h1 h2
    exact ⟨A, n, c, e, hbs.grown hk hg, hg⟩⟩
theorem Fs.move {g' : Option Nat} (h : Fs w B g vals fs) (hg' : g' = g ∨ ∃ k, g' = some k ∧ B ≤ k) : Fs w B g' vals fs :=
  ⟨h.len, fun j h1 h2 => by
    obtain ⟨A, n, c, e, hbs, hg⟩ := h.at' j h1 h2
    refine ⟨A, n, c, e, hbs, fun ad hA h0 => ?_⟩
    rcases hg' with rfl | ⟨k, rfl, hk⟩
    · exact hg ad hA h0
    · obtain ⟨b, o, hA', hb, _⟩ := hbs.cells h0
      rw [hA] at hA'
      obtain rfl := Option.some.inj hA'
      intro e; have := Option.some.inj e; simp at this; omega⟩
theorem Fs.snoc (h : Fs w B g vals fs) {A : Option Addr} {n c : Nat} {l : List UInt8} (hb : Bs w B A n c l) (hg : ∀ ad, A = some ad → 0 < n → g ≠ some ad.block) :
    Fs w B g (vals ++ [.slice A n c]) (fs ++ [l]) := by
  refine ⟨by simp [h.len], fun j h1 h2 => ?_⟩
  by_cases hj : j < vals.length
  · rw [List.getElem_append_left hj, List.getElem_append_left (by rw [← h.len]; exact hj)]
    exact h.at' j hj _
  · have hjv : j = vals.length := by simp at h1; omega
    have hjf : j = fs.length := by rw [← h.len]; exact hjv
    refine ⟨A, n, c, ?_, ?_, hg⟩
    · rw [List.getElem_append_right (by omega)]; simp [hjv]
    · rw [List.getElem_append_right (by omega)]; simpa [hjf] using hb
theorem Fs.lists {base : Nat} {e : TypeId} {v : Value} {k : Nat} (h : Fs w B g vals fs) (hown : w.ownsRow base e 1 v k vals) (hB : w.heap.size ≤ B) : ∃ A c, v = .slice A k c ∧ Ls w B A k c fs := by
  have hl : vals.length = k := by have := hown.1; omega
  rcases hown.2 with ⟨rfl, rfl⟩ | ⟨g', cap, cur, rfl, hg, hh, hn, hm, hs, ht⟩
  · obtain rfl : vals = [] := List.eq_nil_of_length_eq_zero hl
    obtain rfl : fs = [] := List.eq_nil_of_length_eq_zero (by rw [← h.len]; rfl)
    exact ⟨none, 0, rfl, Ls.zero w _⟩
  · refine ⟨some ⟨g', 0, none⟩, cap, rfl, by rw [← h.len]; exact hl, hn, hm, (fun h => by cases h), fun h0 => ⟨g', 0, rfl, ?_, fun j hj => ?_⟩⟩
    · have := (Array.getElem?_eq_some_iff.1 hh).1; omega
    · have hjv : j < vals.length := by rw [h.len]; exact hj
      obtain ⟨A, n, c, e', hbs, _⟩ := h.at' j hjv hj
      refine ⟨A, n, c, ?_, hbs⟩
      have := hown.cells (g := g') rfl j (vals[j]) (List.getElem?_eq_getElem hjv)
      rw [Addr.add_lit, e'] at this
      exact this
/-- one slice, laid in a block of its own, is a list of one -/
theorem Ls.one {A : Option Addr} {n c : Nat} {l : List UInt8} (t : TypeId) (h : Bs w w.heap.size A n c l) : Ls (w.alloc (.cells #[.slice A n c] t)) (w.heap.size + 1) (some ⟨w.heap.size, 0, none⟩) 1 1 [l] := by
  refine ⟨rfl, Nat.le_refl _, by simp [maxLen], (fun h => by cases h), fun _ => ⟨w.heap.size, 0, rfl, by omega, fun j hj => ?_⟩⟩
  obtain rfl : j = 0 := by simp at hj; omega
  refine ⟨A, n, c, ?_, (h.alloc (Nat.le_refl _) _).more (by omega)⟩
  rw [World.cell?_alloc_at _ _ _ _ rfl]; rfl
theorem Ls.two {A A2 : Option Addr} {n c n2 c2 : Nat} {l l2 : List UInt8} (t : TypeId) (h : Bs w w.heap.size A n c l) (h2 : Bs w w.heap.size A2 n2 c2 l2) : Ls (w.alloc (.cells #[.slice A n c, .slice A2 n2 c2] t)) (w.heap.size + 1) (some ⟨w.heap.size, 0, none⟩) 2 2 [l, l2] := by
  refine ⟨rfl, Nat.le_refl _, by simp [maxLen], (fun h => by cases h), fun _ => ⟨w.heap.size, 0, rfl, by omega, fun j hj => ?_⟩⟩
  rcases (by simp at hj; omega : j = 0 ∨ j = 1) with rfl | rfl
  · refine ⟨A, n, c, ?_, (h.alloc (Nat.le_refl _) _).more (by omega)⟩
    rw [World.cell?_alloc_at _ _ _ _ rfl]; rfl
  · refine ⟨A2, n2, c2, ?_, (h2.alloc (Nat.le_refl _) _).more (by omega)⟩
    rw [World.cell?_alloc_at _ _ _ _ rfl]; rfl
end

/-- where the k-th field begins -/
def off (ws : List Int) (k : Nat) : Nat := ((ws.take k).map Int.toNat).sum
/-- the fields, one behind the other, as far as there is anything -/
def fieldsL : List UInt8 → List Int → List (List UInt8)
  | _, [] => []
  | b, w :: ws => b.take w.toNat :: fieldsL (b.drop w.toNat) ws
/-- why there are none -/
def cutE (b : List UInt8) (ws : List Int) : Nat := if b.length < off ws ws.length then 3 else if off ws ws.length < b.length then 4 else 0
def cutF (b : List UInt8) (ws : List Int) : List (List UInt8) := if cutE b ws = 0 then fieldsL b ws else []

theorem off_zero (ws : List Int) : off ws 0 = 0 := rfl
theorem off_succ (ws : List Int) (k : Nat) (h : k < ws.length) : off ws (k + 1) = off ws k + ws[k].toNat := by
  unfold off
  rw [List.take_succ_eq_append_getElem h, List.map_append, List.sum_append]; rfl
theorem off_mono (ws : List Int) (j k : Nat) (h : j ≤ k) : off ws j ≤ off ws k := by
  unfold off
  have e : ws.take j = (ws.take k).take j := by rw [List.take_take]; congr 1; omega
  rw [e]
  conv => rhs; rw [← List.take_append_drop j (ws.take k), List.map_append, List.sum_append]
  omega
theorem cutE_short {b : List UInt8} {ws : List Int} {k N rn : Nat} (hk : k + 1 ≤ ws.length) (h1 : off ws (k + 1) = off ws k + N) (h2 : off ws k + rn = b.length) (h3 : rn < N) : cutE b ws = 3 := by
  have := off_mono ws (k + 1) ws.length hk
  unfold cutE
  rw [if_pos (by omega)]
theorem cutE_left {b : List UInt8} {ws : List Int} {rn : Nat} (h2 : off ws ws.length + rn = b.length) (h3 : 0 < rn) : cutE b ws = 4 := by
  unfold cutE
  rw [if_neg (by omega), if_pos (by omega)]
theorem cutE_ok {b : List UInt8} {ws : List Int} (h2 : off ws ws.length = b.length) : cutE b ws = 0 := by
  unfold cutE
  rw [if_neg (by omega), if_neg (by omega)]
theorem cutF_bad {b : List UInt8} {ws : List Int} (h : cutE b ws ≠ 0) : cutF b ws = [] := by unfold cutF; rw [if_neg h]
theorem cutF_ok {b : List UInt8} {ws : List Int} (h : cutE b ws = 0) : cutF b ws = fieldsL b ws := by unfold cutF; rw [if_pos h]
theorem fieldsL_length (b : List UInt8) (ws : List Int) : (fieldsL b ws).length = ws.length := by
  induction ws generalizing b with
  | nil => rfl
  | cons w ws ih => simp [fieldsL, ih]
theorem fieldsL_snoc (b : List UInt8) (ws : List Int) (z : Int) : fieldsL b (ws ++ [z]) = fieldsL b ws ++ [(b.drop (off ws ws.length)).take z.toNat] := by
  induction ws generalizing b with
  | nil => simp [fieldsL, off]
  | cons w ws ih =>
    simp only [List.cons_append, fieldsL, ih]
    simp [off, List.drop_drop]
theorem fieldsL_take (b : List UInt8) (ws : List Int) (k : Nat) (h : k < ws.length) : fieldsL b (ws.take (k + 1)) = fieldsL b (ws.take k) ++ [(b.drop (off ws k)).take ws[k].toNat] := by
  rw [List.take_succ_eq_append_getElem h, fieldsL_snoc]
  have : off (ws.take k) (ws.take k).length = off ws k := by
    unfold off; rw [List.take_of_length_le (Nat.le_refl _)]
  rw [this]
theorem fieldsL_flatten (b : List UInt8) (ws : List Int) (h : off ws ws.length ≤ b.length) : (fieldsL b ws).flatten = b.take (off ws ws.length) := by
  induction ws generalizing b with
  | nil => simp [fieldsL, off]
  | cons w ws ih =>
    have e : off (w :: ws) (w :: ws).length = w.toNat + off ws ws.length := by simp [off]
    rw [e] at h ⊢
    rw [fieldsL, List.flatten_cons, ih _ (by simp; omega), List.take_add]
end Go.Proofs.Ytadpfbjpkbpanaa

namespace Go.Proofs.Ytadpfbjpkbpanaa
open Go.RowKit

/-- numbers as cells -/
def cellsZ (zs : List Int) : List Value := zs.map (Value.int .i64)
theorem cellsZ_length (zs : List Int) : (cellsZ zs).length = zs.length := by simp [cellsZ]
theorem Zs.of_own {w : World} {base : Nat} {e : TypeId} {v : Value} {n : Nat} {zs : List Int} (h : w.ownsRow base e 1 v n (cellsZ zs)) (hw : ∀ z ∈ zs, (Lit.int .i64 z).wf = true) : ∃ A c, v = .slice A n c ∧ Zs w w.heap.size .i64 A n c zs := by
  have hl : zs.length = n := by have := h.1; rw [cellsZ_length] at this; omega
  rcases h.2 with ⟨rfl, rfl⟩ | ⟨g, cap, cur, rfl, hg, hh, hn, hm, hs, ht⟩
  · obtain rfl : zs = [] := List.eq_nil_of_length_eq_zero hl
    exact ⟨none, 0, rfl, rfl, Nat.le_refl _, Nat.zero_le _, fun _ => rfl, (fun z hz => by cases hz), fun h => absurd h (by omega)⟩
  · refine ⟨some ⟨g, 0, none⟩, cap, rfl, hl, hn, hm, (fun h => by cases h), hw, fun h0 => ⟨g, 0, rfl, (Array.getElem?_eq_some_iff.1 hh).1, fun j hj => ?_⟩⟩
    have := h.cells (g := g) rfl j (.int .i64 zs[j]) (by simp [cellsZ, List.getElem?_eq_getElem hj])
    rwa [Addr.add_lit] at this

/-- how long each is -/
def lens (ls : List (List UInt8)) : List Int := ls.map fun x => (x.length : Int)
theorem lens_length (ls : List (List UInt8)) : (lens ls).length = ls.length := by simp [lens]
theorem lens_take (ls : List (List UInt8)) (k : Nat) : (lens ls).take k = lens (ls.take k) := by simp [lens, List.map_take]
theorem lens_snoc (ls : List (List UInt8)) (k : Nat) (h : k < ls.length) : lens (ls.take (k + 1)) = lens (ls.take k) ++ [(ls[k].length : Int)] := by
  rw [List.take_succ_eq_append_getElem h]; unfold lens; rw [List.map_append]; rfl
theorem off_lens (ls : List (List UInt8)) : off (lens ls) (lens ls).length = ls.flatten.length := by
  unfold off
  rw [List.take_of_length_le (Nat.le_refl _)]
  induction ls with
  | nil => rfl
  | cons x ls ih => simp only [lens, List.map_cons, List.sum_cons, List.flatten_cons, List.length_append] at ih ⊢; rw [ih]; simp
theorem fields_lens (ls : List (List UInt8)) : fieldsL ls.flatten (lens ls) = ls := by
  induction ls with
  | nil => rfl
  | cons x ls ih => simp only [lens, List.map_cons, List.flatten_cons, fieldsL] at ih ⊢; simp [ih]
theorem cut_lens (ls : List (List UInt8)) : cutE ls.flatten (lens ls) = 0 ∧ cutF ls.flatten (lens ls) = ls := by
  have h := off_lens ls
  have h1 : cutE ls.flatten (lens ls) = 0 := cutE_ok h
  exact ⟨h1, by rw [cutF_ok h1, fields_lens]⟩
theorem cut_lens_more (ls : List (List UInt8)) (b : UInt8) : cutE (ls.flatten ++ [b]) (lens ls) = 4 := by
  have h := off_lens ls
  exact cutE_left (rn := 1) (by rw [h]; simp) (by omega)
theorem cut_lens_less (ls : List (List UInt8)) (k : Nat) (h0 : k < ls.flatten.length) : cutE (ls.flatten.take k) (lens ls) = 3 := by
  have h := off_lens ls
  unfold cutE
  rw [h, if_pos (by rw [List.length_take]; omega)]
end Go.Proofs.Ytadpfbjpkbpanaa

namespace Go.Proofs.Ytadpfbjpkbpanaa
open Go.RowKit

theorem Ls.vals {w : World} {B : Nat} {A : Option Addr} {n c : Nat} {ls : List (List UInt8)} (h : Ls w B A n c ls) (g : Option Nat) (hg : ∀ k, g = some k → B ≤ k) :
    ∃ vals, vals.length = n ∧ Fs w B g vals ls ∧ (∀ ad, A = some ad → ∀ j u, vals[j]? = some u → w.cell? (ad.add j) = some u) ∧ ∀ u ∈ vals, u.oneCell' = true := by
  rcases Nat.eq_zero_or_pos n with h0 | h0
  · subst h0
    obtain rfl : ls = [] := List.eq_nil_of_length_eq_zero h.len
    exact ⟨[], rfl, Fs.zero _ _ _, (fun _ _ j u hu => by simp at hu), fun u hu => by cases hu⟩
  · obtain ⟨b, o, rfl, hb, hc⟩ := h.cells h0
    have hl := h.len
    have key : ∀ j, j < n → ∃ A' n' c', w.cell? ⟨b, o + j, none⟩ = some (.slice A' n' c') ∧ ∀ (hj : j < ls.length), Bs w B A' n' c' ls[j] := by
      intro j hj
      obtain ⟨A', n', c', h1, h2⟩ := hc j (by omega)
      exact ⟨A', n', c', h1, fun _ => h2⟩
    refine ⟨(List.range n).map fun j => (w.cell? ⟨b, o + j, none⟩).getD undef, by simp, ⟨by simp [hl], fun j h1 h2 => ?_⟩, fun ad had j u hu => ?_, fun u hu => ?_⟩
    · have hj : j < n := by simpa using h1
      obtain ⟨A', n', c', h3, h4⟩ := key j hj
      refine ⟨A', n', c', by simp [h3], h4 h2, fun ad hA hn => ?_⟩
      obtain ⟨b', o', hA', hb', _⟩ := (h4 h2).cells hn
      rw [hA] at hA'
      obtain rfl := Option.some.inj hA'
      intro e
      have := hg _ e
      simp at this; omega
    · obtain rfl := Option.some.inj had
      have hj : j < n := by
        have := (List.getElem?_eq_some_iff.1 hu).1
        simpa using this
      obtain ⟨A', n', c', h3, _⟩ := key j hj
      rw [Addr.add_lit, h3]
      simp [hj, h3] at hu
      rw [hu]
    · obtain ⟨j, hj, rfl⟩ := List.mem_map.1 hu
      obtain ⟨A', n', c', h3, _⟩ := key j (by simpa using hj)
      rw [h3]; rfl
theorem Fs.append {w : World} {B : Nat} {g : Option Nat} {v1 v2 : List Value} {f1 f2 : List (List UInt8)} (h1 : Fs w B g v1 f1) (h2 : Fs w B g v2 f2) : Fs w B g (v1 ++ v2) (f1 ++ f2) := by
  refine ⟨by simp [h1.len, h2.len], fun j hj1 hj2 => ?_⟩
  by_cases hj : j < v1.length
  · rw [List.getElem_append_left hj, List.getElem_append_left (by rw [← h1.len]; exact hj)]
    exact h1.at' j hj _
  · have e := h1.len
    rw [List.getElem_append_right (by omega), List.getElem_append_right (by omega)]
    have h3 := h2.at' (j - v1.length) (by simp at hj1; omega) (by simp at hj2; omega)
    simpa [e] using h3
/-- the widths that are asked for -/
def widths (ws : List UInt8) : List Int := ws.map fun x => ((x.toNat % 9 : Nat) : Int)
theorem widths_length (ws : List UInt8) : (widths ws).length = ws.length := by simp [widths]
theorem widths_snoc (ws : List UInt8) (k : Nat) (h : k < ws.length) : widths (ws.take (k + 1)) = widths (ws.take k) ++ [((ws[k].toNat % 9 : Nat) : Int)] := by
  rw [List.take_succ_eq_append_getElem h]; unfold widths; rw [List.map_append]; rfl
def widthSum (ws : List UInt8) : Nat := (ws.map fun x => x.toNat % 9).sum
theorem widthSum_snoc (ws : List UInt8) (k : Nat) (h : k < ws.length) : widthSum (ws.take (k + 1)) = widthSum (ws.take k) + ws[k].toNat % 9 := by
  rw [List.take_succ_eq_append_getElem h]; unfold widthSum; rw [List.map_append, List.sum_append]; rfl
theorem widthSum_off (ws : List UInt8) : off (widths ws) (widths ws).length = widthSum ws := by
  unfold off
  rw [List.take_of_length_le (Nat.le_refl _)]
  induction ws with
  | nil => rfl
  | cons x ws ih => simp only [widths, widthSum, List.map_cons, List.sum_cons] at ih ⊢; rw [ih]; omega
theorem field_len (b : List UInt8) (ws : List Int) (h : off ws ws.length ≤ b.length) (j : Nat) (hj : j < ws.length) : ((fieldsL b ws)[j]'(by rw [fieldsL_length]; exact hj)).length = ws[j].toNat := by
  induction ws generalizing b j with
  | nil => simp at hj
  | cons w ws ih =>
    have e : off (w :: ws) (w :: ws).length = w.toNat + off ws ws.length := by simp [off]
    rw [e] at h
    cases j with
    | zero => simp [fieldsL]; omega
    | succ j => simp only [fieldsL, List.getElem_cons_succ]; exact ih _ (by simp; omega) j (by simpa using hj)
theorem cutE_zero {b : List UInt8} {ws : List Int} : cutE b ws = 0 ↔ off ws ws.length = b.length := by
  unfold cutE; split <;> (try split) <;> omega
theorem cutE_three {b : List UInt8} {ws : List Int} : cutE b ws = 3 ↔ b.length < off ws ws.length := by
  unfold cutE; split <;> (try split) <;> omega
end Go.Proofs.Ytadpfbjpkbpanaa

namespace Go.Proofs.Ytadpfbjpkbpanaa
open Go.RowKit

section
variable {w w' : World} {B g : Nat} {t : TypeId}
/-- a variable that holds one slice lies apart from all bytes -/
theorem Bs.notvar {A A2 : Option Addr} {n c n2 c2 : Nat} {l : List UInt8} (h : Bs w B A n c l) (hk : Blk w g t [.slice A2 n2 c2]) : ∀ ad, A = some ad → 0 < n → some g ≠ some ad.block := by
  intro ad hA h0 e
  obtain ⟨b, o, hA', _, hc⟩ := h.cells h0
  rw [hA] at hA'
  obtain rfl := Option.some.inj hA'
  obtain rfl := Option.some.inj e
  have h1 := hc 0 (by have := h.len; omega)
  rw [hk.cell?] at h1
  cases o with
  | zero => simp at h1
  | succ o => simp at h1
theorem Bs.setvar {A A2 : Option Addr} {n c n2 c2 : Nat} {l : List UInt8} (h : Bs w B A n c l) (hk : Blk w g t [.slice A2 n2 c2]) (u : Value) : Bs (w.setCell ⟨g, 0, none⟩ u) B A n c l :=
  h.grown (g := some g) (fun k hk2 _ => (Only.setCell w ⟨g, 0, none⟩ u).block k (fun e => hk2 (by rw [e]))) (h.notvar hk)
theorem Fs.setvar {own : Option Nat} {vals : List Value} {fs : List (List UInt8)} {A2 : Option Addr} {n2 c2 : Nat} (h : Fs w B own vals fs) (hk : Blk w g t [.slice A2 n2 c2]) (u : Value) : Fs (w.setCell ⟨g, 0, none⟩ u) B own vals fs :=
  ⟨h.len, fun j h1 h2 => by
    obtain ⟨A, n, c, e, hbs, hg⟩ := h.at' j h1 h2
    exact ⟨A, n, c, e, hbs.setvar hk u, hg⟩⟩
end
/-- the variable g holds a row of the call's own: byte slices that read as fs -/
structure Fld (W : World) (g base k : Nat) (A : Option Addr) (c : Nat) (fs : List (List UInt8)) : Prop where
  var : Blk W g 40 [.slice A k c]
  lt : g < base
  le : base ≤ W.heap.size
  row : ∃ vals, W.ownsRow base 22 1 (.slice A k c) k vals ∧ Fs W W.heap.size (Value.slice A k c).ownBlock vals fs
section
variable {W W' : World} {g base k c : Nat} {A : Option Addr} {fs : List (List UInt8)}
theorem Fld.below (h : Fld W g base k A c fs) (hb : Below W.heap.size W W') : Fld W' g base k A c fs := by
  obtain ⟨vals, h1, h2⟩ := h.row
  exact ⟨h.var.below hb (by have := h.lt; have := h.le; omega), h.lt, Nat.le_trans h.le hb.size, vals, own_below h1 hb, (h2.below hb).more hb.size⟩
theorem Fld.drew (h : Fld W g base k A c fs) : Fld W.drew g base k A c fs := h.below (Below.refl _ _).drew
theorem Fld.lists (h : Fld W g base k A c fs) : Ls W W.heap.size A k c fs := by
  obtain ⟨vals, h1, h2⟩ := h.row
  obtain ⟨A', c', e, h3⟩ := h2.lists h1 (Nat.le_refl _)
  cases e
  exact h3
/-- the row lies neither ahead of base nor behind what was there -/
theorem Fld.own (h : Fld W g base k A c fs) : ∀ b, (Value.slice A k c).ownBlock = some b → base ≤ b ∧ b < W.heap.size := by
  obtain ⟨vals, h1, _⟩ := h.row
  exact h1.lt
theorem Fld.ap_lo (h : Fld W g base k A c fs) {b : Nat} (hb : b < base) : (Value.slice A k c).ownBlock ≠ some b := fun e => by have := h.own b e; omega
theorem Fld.ap_hi (h : Fld W g base k A c fs) {b : Nat} (hb : W.heap.size ≤ b) : (Value.slice A k c).ownBlock ≠ some b := fun e => by have := h.own b e; omega
end
theorem own_form' {w : World} {B n size : Nat} {e : TypeId} {v : Value} {xs : List Value} (h : w.ownsRow B e size v n xs) : ∃ A c, v = .slice A n c := by
  rcases h.2 with ⟨rfl, rfl⟩ | ⟨g', cap, cur, rfl, _⟩
  · exact ⟨_, _, rfl⟩
  · exact ⟨_, _, rfl⟩
theorem Fld.start (w : World) (g : Nat) (hv : Blk w g 40 [.slice none 0 0]) : Fld w g w.heap.size 0 none 0 [] := ⟨hv, hv.lt, Nat.le_refl _, [], own_nil _ _ _, Fs.zero _ _ _⟩

set_option maxRecDepth 100000 in
set_option maxHeartbeats 1000000 in
theorem write1_any {g base k c : Nat} {A : Option Addr} {fs ls : List (List UInt8)} {vals2 : List Value} (M : Addr) (m d : Nat) (w : World) (h : Fld w g base k A c fs) (hl : vals2.length = m)
    (hc : ∀ j u, vals2[j]? = some u → w.cell? (M.add j) = some u) (h1 : ∀ u ∈ vals2, u.oneCell' = true) (hF : Fs w w.heap.size (Value.slice A k c).ownBlock vals2 ls) (hk : k + m ≤ 1000000) :
    Calls Try.prog 42 #[.slice (some M) m d, .pointer (some ⟨g, 0, none⟩)] w fun e w' => ∃ A' c', e = .returned (.tuple #[]) ∧ Fld w' g base (k + m) A' c' (fs ++ ls) ∧ Below g w w' := by
  obtain ⟨vals, hown, hfs⟩ := h.row
  have HV : Kp _ := ⟨h.var⟩
  have HLt : Kp (g < base) := ⟨h.lt⟩
  have HLe : Kp (base ≤ w.heap.size) := ⟨h.le⟩
  have HO : Kp _ := ⟨hown⟩
  have HF : Kp _ := ⟨hfs.append hF⟩
  have HC : Kp _ := ⟨hc⟩
  have H1 : Kp _ := ⟨h1⟩
  have HLn : Kp _ := ⟨hl⟩
  have c0 : w.cell? ⟨g, 0, none⟩ = some (.slice A k c) := HV.out.cell? 0
  clear h hown hfs hF hc h1 hl
  go_enter Try.func42, Try.ntmps42
  go_wp2_with (at_builtin; refine wpList_app elS rfl _ _ rfl base _ k vals rfl HO.out (some M) m d vals2 rfl HLn.out (fun h => by cases h) (fun ad h => by cases h; exact HC.out) H1.out (by simp only [maxLen]; omega) (by omega) HLe.out ?_)
  intro v' w' hown' hg' hv'
  obtain ⟨A', c', rfl⟩ := own_form' hown'
  have hB : Below base w w' := below_of_grown HO.out HLe.out hg'
  have HV2 : Kp _ := ⟨HV.out.below hB HLt.out⟩
  have HF2 : Kp (Fs w' w'.heap.size (Value.slice A' (k + m) c').ownBlock (vals ++ vals2) (fs ++ ls)) := ⟨((HF.out.grown (fun b hb hlt => hg'.block b hlt (fun e => hb e.symm))).move (by
    rcases hv' with e | e
    · exact .inl e
    · exact .inr ⟨_, e, Nat.le_refl _⟩)).more hg'.size⟩
  have c1 : w'.cell? ⟨g, 0, none⟩ = some (.slice A k c) := HV2.out.cell? 0
  have f1 : w'.frozen? ⟨g, 0, none⟩ = false := HV2.out.frozen 0
  have HO2 : Kp _ := ⟨hown'⟩
  have HB : Kp _ := ⟨hB⟩
  clear hown' hg' hv' hB c0
  go_wp2
  go_end0
  refine ⟨A', c', rfl, ⟨HV2.out.set 0 _, HLt.out, ?_, vals ++ vals2, ownsRow_setCell_below HO2.out (a := ⟨g, 0, none⟩) HLt.out _, ?_⟩, ?_⟩
  · have := HB.out.size; have := HLe.out; simp; omega
  · simpa using HF2.out.setvar HV2.out (.slice A' (k + m) c')
  · exact (HB.out.mono (Nat.le_of_lt HLt.out)).setCell (p := ⟨g, 0, none⟩) (Nat.le_refl _) _
end Go.Proofs.Ytadpfbjpkbpanaa

namespace Go.Proofs.Ytadpfbjpkbpanaa
open Go.RowKit

/-- bytes that have just been laid, marked or not -/
theorem lit_bs (w : World) (t : TypeId) (fr : Nat × Nat) (l : List UInt8) (C : Array Value) (hC : C = (cells8 l).toArray) (n : Nat) (hn : l.length = n) (hm : n ≤ maxLen) : Bs (w.alloc (.cells C t fr)) (w.heap.size + 1) (some ⟨w.heap.size, 0, none⟩) n n l := by
  subst hC
  refine ⟨hn, Nat.le_refl _, hm, (fun h => by cases h), fun _ => ⟨w.heap.size, 0, rfl, by omega, fun j hj => ?_⟩⟩
  have hb : (w.alloc (.cells (cells8 l).toArray t fr)).heap[w.heap.size]? = some (.cells (cells8 l).toArray t fr) := by
    show (w.heap.push _)[w.heap.size]? = _
    simp
  rw [cell_of_row _ _ _ _ _ _ hb]
  simpa using cells8_at l j hj
section
variable {P : Program} {w : World} {ops : Array Oper} {rest : List Oper} {o : Oper} {a : Act} {Q : Exit → Act → World → Prop} {t e : TypeId} {z : Value} {bytes : Nat}
theorem wpList_lit (E : El P t e z bytes) (he : P.underlying e = some (.int .u8)) (hg : Region.wanted o (yielded ops a.tmps) = true) (x : Operand) (hop : o.op = .convert t t x) {C : Array Value} (l : List UInt8) (hC : C = (cells8 l).toArray) (n : Nat) (hn : l.length = n) (hm : n ≤ maxLen) (hx : a.eval x = .slice (some ⟨w.heap.size, 0, none⟩) n n)
    (h : ∀ w', Bs w' w'.heap.size (some ⟨w.heap.size, 0, none⟩) n n l → Below w.heap.size w w' → wpList P ops Q rest (a.put o.dst (.slice (some ⟨w.heap.size, 0, none⟩) n n)) w') :
    wpList P ops Q (o :: rest) a (w.alloc (.cells C e)) := by
  refine wpList_step fun K hK => ?_
  rw [if_pos hg]
  have hrun := Lib.run_convert_bytes_const (P := P) w t e C n n E.ty he
  have hty : o.op = .convert t t x := hop
  unfold Oper.wp
  simp only [execOp, hty, hx, Sem.run_bind, hrun, Result.andThen_ok, Sem.run_pure]
  refine hK _ _ (h _ ((lit_bs w e (C.size, C.size + 1) l C hC n hn hm).more (by simp)) ((Below.refl _ _).alloc (Nat.le_refl _) _))
end
end Go.Proofs.Ytadpfbjpkbpanaa

namespace Go.Proofs.Ytadpfbjpkbpanaa
open Go.RowKit
section
variable {P : Program} {w w' : World} {t e : TypeId} {z : Value} {bytes : Nat} {g : Nat} {C : Array Value} {fr : Nat × Nat}
theorem mark_heap (hh : w.heap[g]? = some (.cells C e fr)) (k : Nat) : ∃ fr2, (w.freeze ⟨g, k, none⟩ 1).heap[g]? = some (.cells C e fr2) ∧ Only g w (w.freeze ⟨g, k, none⟩ 1) := by
  obtain ⟨lo, hi⟩ := fr
  refine ⟨if lo == hi then (k, k + 1) else (min lo k, max hi (k + 1)), ?_, ?_, ?_, ?_, ?_, ?_⟩
  · unfold World.freeze
    rw [if_neg (by decide)]
    show (w.heap.modify g _)[g]? = _
    rw [Array.getElem?_modify, if_pos rfl, hh]
    rfl
  all_goals unfold World.freeze; rw [if_neg (by decide)]
  · simp
  · intro k2 hk
    show (w.heap.modify g _)[k2]? = _
    rw [Array.getElem?_modify, if_neg (fun e => hk e.symm)]
theorem run_mark (E : El P t e z bytes) (he : P.underlying e = some (.int .u8)) (hh : w.heap[g]? = some (.cells C e fr)) (n c : Nat) :
    ∃ w' fr2, (convert t t (.slice (some ⟨g, 0, none⟩) n c)).run P w = .ok (.slice (some ⟨g, 0, none⟩) n c) w' ∧ w'.heap[g]? = some (.cells C e fr2) ∧ Only g w w' := by
  have hsh : w.shape? g = some (e, C.size) := by unfold World.shape?; rw [hh]
  obtain ⟨fr2, h1, h2⟩ := mark_heap hh C.size
  refine ⟨_, fr2, ?_, h1, h2⟩
  simp [convert, run_underlying E.ty, run_underlying he, markStringish, hsh]
theorem same_cells (hh : w.heap[g]? = some (.cells C e fr)) {fr2 : Nat × Nat} (hh2 : w'.heap[g]? = some (.cells C e fr2)) (ho : Only g w w') : ∀ p : Addr, w'.cell? p = w.cell? p := by
  intro p
  by_cases hp : p.block = g
  · obtain ⟨b, o, s⟩ := p
    simp only at hp
    subst hp
    simp only [World.cell?, hh, hh2]
  · exact World.cell?_of_block (w := w) (ho.block _ hp)
theorem step_mark {ops : Array Oper} {o : Oper} {a : Act} {Q : Exit → Act → World → Prop} {K : Act → World → Prop} {C0 : Prop} (E : El P t e z bytes) (he : P.underlying e = some (.int .u8)) (hgd : o.guard = none) (x : Operand) (hop : o.op = .convert t t x) {n c : Nat} (hx : a.eval x = .slice (some ⟨g, 0, none⟩) n c) (hh : w.heap[g]? = some (.cells C e fr))
    (h : ∀ w' fr2, w'.heap[g]? = some (.cells C e fr2) → Only g w w' → (∀ p : Addr, w'.cell? p = w.cell? p) → K (a.put o.dst (.slice (some ⟨g, 0, none⟩) n c)) w') :
    if Region.wanted o (yielded ops a.tmps) = true then Oper.wp P o a w K Q else C0 := by
  have hw : Region.wanted o (yielded ops a.tmps) = true := by simp [Region.wanted, hgd]
  rw [if_pos hw]
  obtain ⟨w', fr2, hrun, h1, h2⟩ := run_mark E he hh n c
  unfold Oper.wp
  simp only [execOp, hop, hx, Sem.run_bind, hrun, Result.andThen_ok, Sem.run_pure]
  exact h w' fr2 h1 h2 (same_cells hh h1 h2)
theorem raw_below {B : Nat} (hh : w.heap[g]? = some (.cells C e fr)) (hb : Below B w w') (hB : w.heap.size ≤ B) : w'.heap[g]? = some (.cells C e fr) :=
  (hb.block g (Nat.lt_of_lt_of_le (Array.getElem?_eq_some_iff.1 hh).1 hB)).trans hh
theorem raw_bs (hh : w.heap[g]? = some (.cells C e fr)) (l : List UInt8) (hC : C = (cells8 l).toArray) (n : Nat) (hn : l.length = n) (hm : n ≤ maxLen) : Bs w w.heap.size (some ⟨g, 0, none⟩) n n l := by
  subst hC
  refine ⟨hn, Nat.le_refl _, hm, (fun h => by cases h), fun _ => ⟨g, 0, rfl, (Array.getElem?_eq_some_iff.1 hh).1, fun j hj => ?_⟩⟩
  rw [cell_of_row _ _ _ _ _ _ hh]
  simpa using cells8_at l j hj
end
end Go.Proofs.Ytadpfbjpkbpanaa

namespace Go.Proofs.Ytadpfbjpkbpanaa
open Go.RowKit

theorem grown_belowK {e : TypeId} {size base n : Nat} {v : Value} {xs : List Value} {w1 w2 : World} (hown : w1.ownsRow base e size v n xs) (hbase : base ≤ w1.heap.size) (hg : w1.grownBy w2 v.ownBlock) : Below base w1 w2 := by
  refine ⟨hg.os, hg.tape, hg.output, hg.size, fun k hk => hg.block k (by omega) (fun e => ?_)⟩
  rcases hown.2 with ⟨rfl, _⟩ | ⟨g, cap, cur, rfl, hb, _⟩
  · cases e
  · have := Option.some.inj e
    simp at this
    omega
theorem nil_own (w : World) (base : Nat) (e : TypeId) (size : Nat) : w.ownsRow base e size (.slice none 0 0) 0 [] := ⟨by simp, .inl ⟨rfl, rfl⟩⟩
section
variable {P : Program} {w : World} {ops : Array Oper} {rest : List Oper} {o : Oper} {a : Act} {Q : Exit → Act → World → Prop} {t e : TypeId} {z : Value} {bytes size : Nat}
/-- append of things of many cells -/
theorem wpList_appK (ht : P.underlying t = some (.slice e)) (hinf : (P.info? e).map (fun i => (i.zero, i.size, i.bytes)) = some (some z, size, bytes)) (hzs : z.cells.size = size) (hpos : 0 < size) (hgd : o.guard = none) (s x : Operand)
    (ho : o.op = .call { callee := .builtin .append, args := #[s, x], argTypes := #[t, t] })
    (base : Nat) (v : Value) (n : Nat) (xs : List Value) (hs : a.eval s = v) (hown : w.ownsRow base e size v n xs)
    (ad : Addr) (m c : Nat) (ys : List Value) (hx : a.eval x = .slice (some ad) m c) (hl : ys.length = m * size) (hsrc : ∀ j u, ys[j]? = some u → w.cell? (ad.add j) = some u) (h1 : ∀ u ∈ ys, u.oneCell' = true)
    (h63 : n + m ≤ maxLen) (hbytes : (n + m) * bytes ≤ 140737488355328) (hbase : base ≤ w.heap.size)
    (h : ∀ v' w', w'.ownsRow base e size v' (n + m) (xs ++ ys) → Below base w w' → wpList P ops Q rest (a.put o.dst v') w') :
    wpList P ops Q (o :: rest) a w := by
  obtain ⟨i, hi, hz, hsize, hby⟩ := info_parts hinf
  exact wpList_append_own_at w hgd s x t ho base e i z size bytes ht hi hz hsize hby hzs hpos v n _ hs hown ad m c ys hx hl hsrc h1 h63 hbytes hbase
      (fun v' w' h2 h3 _ _ => h v' w' h2 (grown_belowK hown hbase h3))
end
noncomputable def zDig : Value := .agg zero32.toArray
theorem infDig : (Try.prog.info? 57).map (fun i => (i.zero, i.size, i.bytes)) = some (some zDig, 32, 32) := by kernel_rfl
theorem zDig_size : zDig.cells.size = 32 := by kernel_rfl

set_option maxRecDepth 100000 in
set_option maxHeartbeats 400000 in
theorem clone8_any (A : Option Addr) (n c : Nat) (l : List UInt8) (w : World) (ha : Bs w w.heap.size A n c l) (hn : n ≤ 4294967296) :
    Calls Try.prog 35 #[.slice A n c] w fun e w' => ∃ v, e = .returned v ∧ w'.ownsRow w.heap.size 5 1 v n (cells8 l) ∧ Below w.heap.size w w' := by
  have HA : Kp _ := ⟨ha⟩
  have HL : Kp _ := ⟨ha.len⟩
  have heq := fun w => Lib.run_eql_slice_nil (P := Try.prog) w 22 5 A n c 0 0 Try.underlying22
  cases hA : A with
  | none =>
    have h0 : n = 0 := by have := ha.nil hA; have := ha.cap; omega
    have hl : l = [] := List.eq_nil_of_length_eq_zero (by have := ha.len; omega)
    have hc : c = 0 := ha.nil hA
    rw [hA] at heq
    clear ha HA HL hA
    subst h0 hl hc
    go_enter Try.func35, Try.ntmps35
    go_wp2
    go_ret
    exact ⟨_, rfl, own_nil _ _ _, Below.refl _ _⟩
  | some ad =>
    subst hA
    clear ha
    have hb1 : Below w.heap.size w (w.alloc (.cells #[] 5)) := (Below.refl _ _).alloc (Nat.le_refl _) _
    have HO : Kp ((w.alloc (.cells #[] 5)).ownsRow w.heap.size 5 1 (.slice (some ⟨w.heap.size, 0, none⟩) 0 0) 0 []) :=
      ⟨rfl, .inr ⟨w.heap.size, 0, #[], rfl, Nat.le_refl _, by show (w.heap.push _)[w.heap.size]? = _; simp, Nat.le_refl _, Nat.zero_le _, rfl, rfl⟩⟩
    have HA1 : Kp _ := ⟨HA.out.below hb1⟩
    go_enter Try.func35, Try.ntmps35
    go_wp2_with (at_builtin; refine wpList_app el8 rfl _ _ rfl w.heap.size _ 0 [] rfl HO.out (some ad) n c (cells8 l) rfl (by rw [cells8_length, HL.out]) (fun h => by cases h) HA1.out.news (cells8_one _) (by simp only [maxLen]; omega) (by omega) (by simp) ?_)
    intro v2 w2 hown2 hg2 _
    have hb2 : Below w.heap.size w w2 := hb1.trans (grown_belowK HO.out (by simp) hg2)
    have H2 : Kp (w2.ownsRow w.heap.size 5 1 v2 n (cells8 l)) := ⟨by simpa using hown2⟩
    clear hown2 hg2
    go_wp2
    go_ret
    exact ⟨_, rfl, H2.out, hb2⟩
set_option maxRecDepth 100000 in
set_option maxHeartbeats 400000 in
theorem clone32_any (A : Option Addr) (n c : Nat) (l : List (List UInt8)) (w : World) (ha : Ds w w.heap.size A n c l) (hn : n ≤ 1000000) :
    Calls Try.prog 36 #[.slice A n c] w fun e w' => ∃ v, e = .returned v ∧ w'.ownsRow w.heap.size 57 32 v n (cells8 l.flatten) ∧ Below w.heap.size w w' := by
  have HA : Kp _ := ⟨ha⟩
  have HL : Kp _ := ⟨ha.len⟩
  have heq := fun w => Lib.run_eql_slice_nil (P := Try.prog) w 24 57 A n c 0 0 Try.underlying24
  cases hA : A with
  | none =>
    have h0 : n = 0 := by have := ha.nil hA; have := ha.cap; omega
    have hl : l = [] := List.eq_nil_of_length_eq_zero (by have := ha.len; omega)
    have hc : c = 0 := ha.nil hA
    rw [hA] at heq
    clear ha HA HL hA
    subst h0 hl hc
    go_enter Try.func36, Try.ntmps36
    go_wp2
    go_ret
    exact ⟨_, rfl, nil_own _ _ _ _, Below.refl _ _⟩
  | some ad =>
    subst hA
    have HW : Kp ((cells8 l.flatten).length = n * 32) := ⟨by rw [cells8_length, flat_len l ha.wide, ha.len]⟩
    clear ha
    have hb1 : Below w.heap.size w (w.alloc (.cells #[] 57)) := (Below.refl _ _).alloc (Nat.le_refl _) _
    have HO : Kp ((w.alloc (.cells #[] 57)).ownsRow w.heap.size 57 32 (.slice (some ⟨w.heap.size, 0, none⟩) 0 0) 0 []) :=
      ⟨⟨rfl, .inr ⟨w.heap.size, 0, #[], rfl, Nat.le_refl _, by show (w.heap.push _)[w.heap.size]? = _; simp, Nat.le_refl _, Nat.zero_le _, rfl, rfl⟩⟩⟩
    have HA1 : Kp _ := ⟨HA.out.below hb1⟩
    go_enter Try.func36, Try.ntmps36
    go_wp2_with (at_builtin; refine wpList_appK Try.underlying24 infDig zDig_size (by decide) rfl _ _ rfl w.heap.size _ 0 [] rfl HO.out ad n c (cells8 l.flatten) rfl HW.out (HA1.out.news ad rfl) (cells8_one _) (by simp only [maxLen]; omega) (by omega) (by simp) ?_)
    intro v2 w2 hown2 hg2
    have hb2 : Below w.heap.size w w2 := hb1.trans hg2
    have H2 : Kp (w2.ownsRow w.heap.size 57 32 v2 n (cells8 l.flatten)) := ⟨by simpa using hown2⟩
    clear hown2 hg2
    go_wp2
    go_ret
    exact ⟨_, rfl, H2.out, hb2⟩
end Go.Proofs.Ytadpfbjpkbpanaa

namespace Go.Proofs.Ytadpfbjpkbpanaa
open Go.RowKit

/-- what stays true of the world while calls make memory: nothing that was there has turned -/
theorem keep_call {w0 W W' : World} {g : Nat} {cs : List Value} (hS : Below w0.heap.size w0 W ∧ W.rangeAt g 0 cs) (hg : g < w0.heap.size) (hb : Below W.heap.size W W') : Below w0.heap.size w0 W' ∧ W'.rangeAt g 0 cs :=
  ⟨hS.1.trans (hb.mono hS.1.size), range_below hS.2 hb (Nat.lt_of_lt_of_le hg hS.1.size)⟩
theorem keep_alloc {w0 W : World} {g : Nat} {cs : List Value} (hS : Below w0.heap.size w0 W ∧ W.rangeAt g 0 cs) (o : Obj) : Below w0.heap.size w0 (W.alloc o) ∧ (W.alloc o).rangeAt g 0 cs :=
  ⟨hS.1.alloc hS.1.size o, World.rangeAt_alloc hS.2 o⟩
theorem keep_drew {w0 W : World} {g : Nat} {cs : List Value} (hS : Below w0.heap.size w0 W ∧ W.rangeAt g 0 cs) : Below w0.heap.size w0 W.drew ∧ W.drew.rangeAt g 0 cs := ⟨hS.1.drew, hS.2⟩

theorem ls_two (W : World) (t : TypeId) {A B : Option Addr} {n c m d : Nat} {la lb : List UInt8} (ha : Bs W W.heap.size A n c la) (hb : Bs W W.heap.size B m d lb) :
    Ls (W.alloc (.cells #[.slice A n c, .slice B m d] t)) (W.alloc (.cells #[.slice A n c, .slice B m d] t)).heap.size (some ⟨W.heap.size, 0, none⟩) 2 2 [la, lb] := (Ls.two t ha hb).more (by simp)
theorem ls_one (W : World) (t : TypeId) {A : Option Addr} {n c : Nat} {la : List UInt8} (ha : Bs W W.heap.size A n c la) :
    Ls (W.alloc (.cells #[.slice A n c] t)) (W.alloc (.cells #[.slice A n c] t)).heap.size (some ⟨W.heap.size, 0, none⟩) 1 1 [la] := (Ls.one t ha).more (by simp)
/-- x[i:] of bytes, in a region -/
theorem yieldsIf_cut_l {P : Program} {ops : Array Oper} {S : World → Prop} {op : Oper} {a : Act} {t e : TypeId} {z : Value} {bytes : Nat} (hw : Region.wanted op (yielded ops a.tmps) = true) (E : El P t e z bytes) (x lo : Operand) (ho : op.op = .slice t x (some lo) none none)
    {A : Option Addr} {n c : Nat} (hx : a.eval x = .slice A n c) {k : IntKind} {I : Int} (hlo : a.eval lo = .int k I) (i : Nat) (hI : I = i) (hi : i ≤ n) {A' : Option Addr} {n' c' : Nat} (hA' : (if c = i then A else A.map (·.add i)) = A') (hn' : n - i = n') (hc' : c - i = c') : YieldsIf P ops S op (.slice A' n' c') a := by
  subst hI hA' hn' hc'
  refine .inl ⟨hw, fun w _ => ?_⟩
  have hrun := run_slice_l (P := P) (w := w) t A n c E.ty' k (i : Int) (by omega) (by omega)
  rw [E.sizeOf] at hrun
  unfold execOp
  simp [ho, hx, hlo, run_sliceAt_slice (P := P) (w := w) t _ _ _ _ E.ty', hrun, Result.andThen, sliced]
/-- two arrays of bytes, held against each other, in a region -/
theorem yieldsIf_eql {P : Program} {ops : Array Oper} {S : World → Prop} {op : Oper} {a : Act} {t e t' : TypeId} {n : Nat} (hw : Region.wanted op (yielded ops a.tmps) = true) (E : EqB P t e n) (hG : P.eqGuardType P.depth t = false) (x y : Operand) (ho : op.op = .binOp .eql t x y t') (l m : List UInt8)
    (hx : a.eval x = .agg (cells8 l).toArray) (hy : a.eval y = .agg (cells8 m).toArray) (hl : l.length = n) (hm : m.length = n) {b : Bool} (hb : (l == m) = b) : YieldsIf P ops S op (.bool b) a :=
  .inl ⟨hw, fun w _ => by
    unfold execOp
    simp only [ho, hx, hy, Sem.run_bind, run_eqGuard_agg (w := w) _ _ _ _ _ _ hG, Result.andThen_ok, run_eql_bytes E w l m hl hm, hb, Sem.run_pure]⟩
theorem yieldsIf_neq {P : Program} {ops : Array Oper} {S : World → Prop} {op : Oper} {a : Act} {t e t' : TypeId} {n : Nat} (hw : Region.wanted op (yielded ops a.tmps) = true) (E : EqB P t e n) (hG : P.eqGuardType P.depth t = false) (x y : Operand) (ho : op.op = .binOp .neq t x y t') (l m : List UInt8)
    (hx : a.eval x = .agg (cells8 l).toArray) (hy : a.eval y = .agg (cells8 m).toArray) (hl : l.length = n) (hm : m.length = n) {b : Bool} (hb : (!(l == m)) = b) : YieldsIf P ops S op (.bool b) a :=
  .inl ⟨hw, fun w _ => by
    unfold execOp
    simp only [ho, hx, hy, Sem.run_bind, run_eqGuard_agg (w := w) _ _ _ _ _ _ hG, Result.andThen_ok, run_neq_bytes E w l m hl hm, hb, Sem.run_pure]⟩
end Go.Proofs.Ytadpfbjpkbpanaa

namespace Go.Proofs.Ytadpfbjpkbpanaa
open Go.RowKit

theorem and31 (n : Nat) (h1 : 1 ≤ n) (h2 : n ≤ 31) : bits .and .u64 (IntKind.u64.wrap (-(n : Int))) 31 = ((32 - n : Nat) : Int) := by
  have e1 : IntKind.u64.wrap (-(n : Int)) = ((18446744073709551616 - n : Nat) : Int) := by
    rw [IntKind.wrap_u64]; omega
  rw [e1]
  have := u64_and_nat (18446744073709551616 - n) 31 (by omega) (by omega)
  rw [show ((31 : Nat) : Int) = (31 : Int) from rfl] at this
  rw [this]
  have e2 : (18446744073709551616 - n) &&& 31 = (18446744073709551616 - n) % 32 := Nat.and_two_pow_sub_one_eq_mod _ 5
  rw [e2]
  congr 1
  omega

theorem turnR_val' (x : UInt32) (n : Nat) : bits .or .u32 ((x.toNat : Int) * 2 ^ (32 - n) % 4294967296) ((x.toNat : Int) / 2 ^ n) = ((turnR x n).toNat : Int) := by
  rw [← turnR_val x n]
  have h1 : (x.toNat : Int) / 2 ^ n = ((x.toNat / 2 ^ n : Nat) : Int) := by simp
  have h2 : (x.toNat : Int) * 2 ^ (32 - n) % 4294967296 = ((x.toNat * 2 ^ (32 - n) % 4294967296 : Nat) : Int) := by simp
  rw [h1, h2]
  have l1 : x.toNat / 2 ^ n < 4294967296 := Nat.lt_of_le_of_lt (Nat.div_le_self _ _) x.toNat_lt
  have l2 : x.toNat * 2 ^ (32 - n) % 4294967296 < 4294967296 := Nat.mod_lt _ (by decide)
  rw [u32_or_nat _ _ l2 l1, u32_or_nat _ _ l1 l2, Nat.or_comm]

set_option maxHeartbeats 400000 in
theorem rot_any (x : UInt32) (n : Nat) (w : World) (h1 : 1 ≤ n) (h2 : n ≤ 31) :
    Calls Try.prog 78 #[.int .u32 x.toNat, .int .i64 (-(n : Int))] w fun e w' => e = .returned (.int .u32 (turnR x n).toNat) ∧ w' = w := by
  have hx : (x.toNat : Int) < 4294967296 := by have := x.toNat_lt; omega
  have HT := Lib.hid (turnR_val x n)
  have ha := and31 n h1 h2
  obtain ⟨m, hm⟩ : ∃ m : Nat, m = 32 - n := ⟨_, rfl⟩
  rw [← hm] at ha
  have hm1 : 1 ≤ m := by omega
  have hm2 : m ≤ 31 := by omega
  have HM := Lib.hid hm
  clear hm
  go_enter Try.func78, Try.ntmps78
  go_wp2
  go_ret
  refine ⟨?_, rfl⟩
  show Ending.returned (.int .u32 _) = _
  rw [HM.out, show 32 - (32 - n) = n by omega, turnR_val' x n]

set_option maxHeartbeats 400000 in
theorem turnp_any (x : UInt32) (n : Nat) (w : World) (h1 : 1 ≤ n) (h2 : n ≤ 31) :
    Calls Try.prog 77 #[.int .u32 x.toNat, .int .i64 (n : Int)] w fun e w' => e = .returned (.int .u32 (turnR x n).toNat) ∧ w' = w := by
  go_enter Try.func77, Try.ntmps77
  go_wp2_with fail
  refine (rot_any x n _ h1 h2).mono ?_
  rintro e w' ⟨rfl, rfl⟩
  go_wp2
  go_ret
  exact ⟨rfl, rfl⟩

theorem xor3u (p q r : UInt32) (z : Int) (hz : z = (r.toNat : Int)) : bits .xor .u32 (bits .xor .u32 (p.toNat : Int) (q.toNat : Int)) z = ((p ^^^ q ^^^ r).toNat : Int) := by
  rw [hz, u32_xor', u32_xor']
theorem ch_bits (x y z : UInt32) : (x &&& y) ^^^ ((4294967295 ^^^ x) &&& z) = chR x y z := by
  unfold chR
  apply UInt32.eq_of_toBitVec_eq
  apply BitVec.eq_of_getLsbD_eq
  intro i hi
  simp only [UInt32.toBitVec_xor, UInt32.toBitVec_and, UInt32.toBitVec_or, BitVec.getLsbD_xor, BitVec.getLsbD_and, BitVec.getLsbD_or]
  generalize x.toBitVec.getLsbD i = a
  generalize y.toBitVec.getLsbD i = b
  generalize z.toBitVec.getLsbD i = c
  have : (4294967295 : UInt32).toBitVec.getLsbD i = true := by
    show (BitVec.allOnes 32).getLsbD i = true
    rw [BitVec.getLsbD_allOnes]; simpa using hi
  rw [this]
  cases a <;> cases b <;> cases c <;> rfl
theorem mj_bits (x y z : UInt32) : (x &&& y) ^^^ (x &&& z) ^^^ (y &&& z) = mjR x y z := by
  unfold mjR
  apply UInt32.eq_of_toBitVec_eq
  apply BitVec.eq_of_getLsbD_eq
  intro i hi
  simp only [UInt32.toBitVec_xor, UInt32.toBitVec_and, UInt32.toBitVec_or, BitVec.getLsbD_xor, BitVec.getLsbD_and, BitVec.getLsbD_or]
  generalize x.toBitVec.getLsbD i = a
  generalize y.toBitVec.getLsbD i = b
  generalize z.toBitVec.getLsbD i = c
  cases a <;> cases b <;> cases c <;> rfl
theorem ch_val (x y z : UInt32) : bits .xor .u32 (bits .and .u32 (x.toNat : Int) (y.toNat : Int)) (bits .and .u32 (bits .xor .u32 IntKind.u32.max (x.toNat : Int)) (z.toNat : Int)) = ((chR x y z).toNat : Int) := by
  have e0 : IntKind.u32.max = (((4294967295 : UInt32).toNat : Nat) : Int) := rfl
  rw [e0, u32_xor', u32_and', u32_and', u32_xor', ch_bits]
theorem mj_val (x y z : UInt32) : bits .xor .u32 (bits .xor .u32 (bits .and .u32 (x.toNat : Int) (y.toNat : Int)) (bits .and .u32 (x.toNat : Int) (z.toNat : Int))) (bits .and .u32 (y.toNat : Int) (z.toNat : Int)) = ((mjR x y z).toNat : Int) := by
  rw [u32_and', u32_and', u32_and', u32_xor', u32_xor', mj_bits]

section
set_option maxHeartbeats 400000
theorem big1_any (x : UInt32) (w : World) : Calls Try.prog 71 #[.int .u32 x.toNat] w fun e w' => e = .returned (.int .u32 (big1 x).toNat) ∧ w' = w := by
  go_enter Try.func71, Try.ntmps71
  go_wp2_with (go_at_call 77; refine (turnp_any _ _ _ (by decide) (by decide)).mono ?_; rintro e w' ⟨rfl, rfl⟩)
  go_ret
  refine ⟨?_, rfl⟩
  show Ending.returned (.int .u32 _) = _
  rw [xor3u _ _ _ _ rfl]
  rfl
theorem big0_any (x : UInt32) (w : World) : Calls Try.prog 73 #[.int .u32 x.toNat] w fun e w' => e = .returned (.int .u32 (big0 x).toNat) ∧ w' = w := by
  go_enter Try.func73, Try.ntmps73
  go_wp2_with (go_at_call 77; refine (turnp_any _ _ _ (by decide) (by decide)).mono ?_; rintro e w' ⟨rfl, rfl⟩)
  go_ret
  refine ⟨?_, rfl⟩
  show Ending.returned (.int .u32 _) = _
  rw [xor3u _ _ _ _ rfl]
  rfl
theorem sig0_any (x : UInt32) (w : World) : Calls Try.prog 76 #[.int .u32 x.toNat] w fun e w' => e = .returned (.int .u32 (sig0 x).toNat) ∧ w' = w := by
  go_enter Try.func76, Try.ntmps76
  go_wp2_with (go_at_call 77; refine (turnp_any _ _ _ (by decide) (by decide)).mono ?_; rintro e w' ⟨rfl, rfl⟩)
  go_ret
  refine ⟨?_, rfl⟩
  show Ending.returned (.int .u32 _) = _
  rw [xor3u _ _ _ _ (u32_shr3 x)]
  rfl
theorem sig1_any (x : UInt32) (w : World) : Calls Try.prog 75 #[.int .u32 x.toNat] w fun e w' => e = .returned (.int .u32 (sig1 x).toNat) ∧ w' = w := by
  go_enter Try.func75, Try.ntmps75
  go_wp2_with (go_at_call 77; refine (turnp_any _ _ _ (by decide) (by decide)).mono ?_; rintro e w' ⟨rfl, rfl⟩)
  go_ret
  refine ⟨?_, rfl⟩
  show Ending.returned (.int .u32 _) = _
  rw [xor3u _ _ _ _ (u32_shr10 x)]
  rfl
theorem choose_any (x y z : UInt32) (w : World) : Calls Try.prog 72 #[.int .u32 x.toNat, .int .u32 y.toNat, .int .u32 z.toNat] w fun e w' => e = .returned (.int .u32 (chR x y z).toNat) ∧ w' = w := by
  go_enter Try.func72, Try.ntmps72
  go_wp2
  go_ret
  refine ⟨?_, rfl⟩
  show Ending.returned (.int .u32 _) = _
  rw [ch_val]
theorem most_any (x y z : UInt32) (w : World) : Calls Try.prog 74 #[.int .u32 x.toNat, .int .u32 y.toNat, .int .u32 z.toNat] w fun e w' => e = .returned (.int .u32 (mjR x y z).toNat) ∧ w' = w := by
  go_enter Try.func74, Try.ntmps74
  go_wp2
  go_ret
  refine ⟨?_, rfl⟩
  show Ending.returned (.int .u32 _) = _
  rw [mj_val]
end
end Go.Proofs.Ytadpfbjpkbpanaa
