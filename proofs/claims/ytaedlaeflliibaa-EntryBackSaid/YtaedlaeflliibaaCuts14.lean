/- The contract of codec.Cut. -/
import Derived.Test.YtaedlaeflliibaaJoin7
import Derived.Test.YtaedlaeflliibaaLists
namespace Go.Proofs.Ytaedlaeflliibaa
open Go.RowKit


set_option maxHeartbeats 1000000 in
theorem cut_any (A W : Option Addr) (n c m d : Nat) (xs : List UInt8) (ws : List Int) (w : World) (ha : Bs w w.heap.size A n c xs) (hb : Zs w w.heap.size .i64 W m d ws) (hn : n ≤ 4294967296) (hm : m ≤ 4294967296) :
    Calls Try.prog 48 #[.slice A n c, .slice W m d] w fun e w' => ∃ A' n' c', e = .returned (.tuple #[.slice A' n' c', .int .i64 (cutE xs ws)]) ∧ Ls w' w'.heap.size A' n' c' (cutF xs ws) ∧ Below w.heap.size w w' := by
  have HN := Lib.hid ha.len
  have HM := Lib.hid hb.len
  go_enter Try.func48, Try.ntmps48
  go_wp2
  go_step3
  go_wp2_with (with_reducible refine wpList_mk0 (o := ⟨some 14, _, _, _, _, _⟩) elS rfl _ _ rfl w.heap.size _ _ _ m rfl rfl rfl (by omega) (by simp only [maxLen]; omega) (Nat.le_refl _) ?_)
  intro w1 H1 hB1
  have HA1 := Lib.hid (ha.below hB1)
  go_wp2
  go_step3
  go_wp2
  go_loopw [6, 7, 8, 18] (fun v r e i wr => ∃ (k : Nat) (vals : List Value) (R : Option Addr) (rn rc : Nat), k ≤ m ∧ i = .int .i64 k ∧ e = .int .i64 0 ∧ r = .slice R rn rc ∧ Hid (Bs wr w.heap.size R rn rc (xs.drop (off ws k))) ∧ off ws k + rn ≤ n ∧ Hid (off ws k + rn = n) ∧
      Hid (wr.ownsRow w.heap.size 23 1 v k vals) ∧ Hid (Fs wr wr.heap.size v.ownBlock vals (fieldsL xs (ws.take k))) ∧ Below w.heap.size w wr) (fun _ _ _ i _ => m - (intOf i).toNat)
  case atStart => exact ⟨0, [], A, n, c, Nat.zero_le _, rfl, rfl, rfl, HA1, by simp [off_zero], by simp [off_zero, Hid], H1, Fs.zero _ _ _, hB1⟩
  case round =>
    obtain ⟨k, vals, R, rn, rc, hk, rfl, rfl, rfl, HR, hle, HEQ, H, HF, hB⟩ := hrel
    by_cases hlt : k < m
    · obtain ⟨b, o, rfl, _, hc⟩ := (hb.below hB).at hlt
      have hkw : k < ws.length := by rw [HM.out]; exact hlt
      have HOS := Lib.hid (off_succ ws k hkw)
      have HFT := Lib.hid (fieldsL_take xs ws k hkw)
      generalize ws[k] = z at *
      obtain ⟨N, hN⟩ : ∃ N : Nat, N = z.toNat := ⟨_, rfl⟩
      rw [← hN] at HOS HFT
      have HNZ := Lib.hid hN
      clear hN
      by_cases hbig : rn < N
      · have hbz : (rn : Int) < z := by have := HNZ.out; omega
        have HE := Lib.hid (cutE_short (by omega) HOS.out (HEQ.out.trans HN.out.symm) hbig)
        have HF0 := Lib.hid (cutF_bad (by rw [HE.out]; decide))
        go_wp2
        rw [Exit.noGoto_ret]
        go_ret2
        exact ⟨none, 0, 0, by rw [HE.out]; rfl, by rw [HF0.out]; exact Ls.zero _ _, hB⟩
      · have hbz : z ≤ (rn : Int) := by have := HNZ.out; omega
        rcases (by omega : 0 ≤ z ∨ z < 0) with hz | hz
        all_goals
          go_wp2_with (with_reducible refine wpList_cut_h (o := ⟨some 27, _, _, _, _, _⟩) el8 rfl _ _ rfl rfl HR.out _ _ N rfl (by have := HNZ.out; omega) (by omega) ?_)
          intro R1 HR1
          generalize (xs.drop (off ws k)).take N = Y at *
          have HYL := Lib.hid HR1.len
          go_wp2_with fail
          refine (join_any (some ⟨wr.heap.size, 0, none⟩) 1 1 [Y] _ ?_ ?_).mono ?_
          · have := Ls.one 23 (HR1.more hB.size)
            simpa using this
          · have := HYL.out
            simp only [List.flatten_cons, List.flatten_nil, List.append_nil]; omega
          rintro e w2 ⟨v2, rfl, hown2, hb2⟩
          have hB2 : Below wr.heap.size wr w2 := ((Below.refl _ _).alloc (Nat.le_refl _) _).trans (hb2.mono (by simp))
          have hl1 : [Y].flatten = Y := by simp
          rw [hl1, HYL.out] at hown2
          clear hl1
          obtain ⟨A2, c2, rfl, hbs2⟩ := Bs.of_own hown2
          have haw : ∀ ad, A2 = some ad → wr.heap.size + 1 ≤ ad.block := by
            intro ad hA
            obtain ⟨A3, c3, e3, _, _, _, h3⟩ := own_form hown2
            injection e3 with e4
            subst e4
            obtain ⟨g, rfl, hg, _⟩ := h3 ad hA
            simpa using hg
          have H2 := Lib.hid (H.out.kept (row := none) ⟨hB2.os, hB2.tape, hB2.output, hB2.size, fun j hj _ => hB2.block j hj⟩ (by cases u6.ownBlock <;> simp))
          go_wp2_with (at_builtin; refine wpList_app1 elS rfl _ _ rfl w.heap.size _ k vals rfl H2.out rfl rfl (by simp only [maxLen]; omega) (by omega) (Nat.le_trans hB.size hB2.size) ?_)
          intro v3 w3 H3 hB3 hgr hpos
          have hB4 : Below w.heap.size wr w3 := (hB2.mono hB.size).trans hB3
          have HR3 := Lib.hid (HR.out.below hB4)
          have HF3 : Hid (Fs w3 w3.heap.size v3.ownBlock (vals ++ [.slice A2 N c2]) (fieldsL xs (ws.take (k + 1)))) := by
            have h1 := (HF.out.below hB2).more hB2.size
            have h2 := h1.snoc hbs2 (g := u6.ownBlock) (fun ad hA _ e => by
              have h3 := haw ad hA
              have h4 := (H.out.lt ad.block e).2
              omega)
            rw [HFT.out]
            have h5 := h2.grown (w' := w3) (fun j hj1 hj2 => hgr j hj1 hj2)
            have h6 := h5.move (g' := v3.ownBlock) hpos
            exact h6.more hB3.size
          clear hgr hpos hown2 hbs2 haw
          go_wp2_with (with_reducible refine wpList_cut_l (o := ⟨some 34, _, _, _, _, _⟩) el8 rfl _ _ rfl rfl HR3.out _ _ N rfl (by have := HNZ.out; omega) (by omega) ?_)
          intro R4 rn4 rc4 HR4
          have hrn4 : rn4 + N = rn := by
            have h1 := HR4.len
            have h2 := HR.out.len
            simp only [List.length_drop] at h1 h2
            omega
          go_wp2
          go_roundw
          case rel =>
            refine ⟨k + 1, _, R4, rn4, rc4, by omega, by go_num, rfl, rfl, ?_, by rw [HOS.out]; omega, ?_, H3, HF3, hB.trans hB4⟩
            · rw [HOS.out]; exact HR4
            · show _ = _; rw [HOS.out]; have := HEQ.out; omega
          case measure => simp [intOf]; omega
    · obtain rfl : k = m := by omega
      have hEQ : off ws ws.length + rn = xs.length := by
        rw [HM.out, HN.out]; exact HEQ.out
      rcases Nat.eq_zero_or_pos rn with h0 | h0
      · have HE := Lib.hid (cutE_ok (b := xs) (ws := ws) (by omega))
        have HF0 := Lib.hid (cutF_ok HE.out)
        have HL : Hid (Fs wr wr.heap.size u6.ownBlock vals (fieldsL xs ws)) := by
          have h1 := HF.out
          rw [List.take_of_length_le (by rw [HM.out]; exact Nat.le_refl _)] at h1
          exact h1
        obtain ⟨A2, c2, rfl, hls⟩ := HL.out.lists H.out (Nat.le_refl _)
        clear hEQ
        subst h0
        go_wp2
        rw [Exit.noGoto_ret]
        go_ret2
        exact ⟨A2, k, c2, by rw [HE.out]; rfl, by rw [HF0.out]; exact hls, hB⟩
      · have HE := Lib.hid (cutE_left hEQ h0)
        have HF0 := Lib.hid (cutF_bad (b := xs) (ws := ws) (by rw [HE.out]; decide))
        clear hEQ
        go_wp2
        rw [Exit.noGoto_ret]
        go_ret2
        exact ⟨none, 0, 0, by rw [HE.out]; rfl, by rw [HF0.out]; exact Ls.zero _ _, hB⟩

end Go.Proofs.Ytaedlaeflliibaa
