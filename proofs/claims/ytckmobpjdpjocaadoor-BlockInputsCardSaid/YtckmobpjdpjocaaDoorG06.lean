/- The box as a list.
   An array by value, indexed. No program is named here.
   The contracts of package aes's blend and makeBox.
   The contracts of package aes's functions on states.
   The contracts of package aes's columns, bytes and add.
   The contracts of package aes's shift and mix.
   A key, spread: words, and the rounds' keys. No program is named here. -/
import Derived.Test.YtckmobpjdpjocaaDoorG05
import Derived.Deep.LoopGhost
import Derived.WalkMore
import Derived.Test.YtckmobpjdpjocaaDoorG01
import Derived.ChangeKeysEq
import Derived.Test.YtckmobpjdpjocaaDoorG02
namespace Go.Proofs.YtckmobpjdpjocaaDoor
open Go.RowKit

theorem Only.drewN {g : Nat} {w w' : World} (h : Only g w w') (n : Nat) : Only g w (w'.drewN n) := ⟨h.os, h.tape, h.output, h.size, h.block⟩
theorem below_drewN' {B : Nat} {w w' : World} (h : Below B w w') (n : Nat) : Below B w (w'.drewN n) := ⟨h.os, h.tape, h.output, h.size, h.block⟩

theorem u8_xor' (a b : UInt8) : bits .xor .u8 (a.toNat : Int) (b.toNat : Int) = ((a ^^^ b).toNat : Int) := by
  rw [u8_xor_nat _ _ a.toNat_lt b.toNat_lt, UInt8.toNat_xor]
def invIt (c : UInt8) : Nat → UInt8 × UInt8
  | 0 => (c, 1)
  | k + 1 => (mulU (invIt c k).1 (invIt c k).1, mulU (invIt c k).2 (mulU (invIt c k).1 (invIt c k).1))
/-- a row that is being filled -/
def fillU (f : Nat → UInt8) (n k : Nat) : List UInt8 := (List.range n).map fun j => if j < k then f j else 0
theorem fillU_length (f : Nat → UInt8) (n k : Nat) : (fillU f n k).length = n := by simp [fillU]
theorem fillU_set (f : Nat → UInt8) (n k : Nat) : (cells8 (fillU f n k)).set k (.int .u8 ((f k).toNat : Int)) = cells8 (fillU f n (k + 1)) := by
  have e : (fillU f n k).set k (f k) = fillU f n (k + 1) := by
    refine List.ext_getElem (by rw [List.length_set, fillU_length, fillU_length]) fun i h1 h2 => ?_
    rw [List.getElem_set]
    simp only [fillU, List.getElem_map, List.getElem_range]
    by_cases hi : k = i
    · subst hi; simp
    · rw [if_neg hi]
      by_cases h3 : i < k
      · rw [if_pos h3, if_pos (by omega)]
      · rw [if_neg h3, if_neg (by omega)]
  rw [← e]
  unfold cells8
  rw [List.map_set]
theorem fillU_done (f : Nat → UInt8) (n : Nat) : fillU f n n = (List.range n).map f := by
  unfold fillU
  refine List.map_congr_left fun j hj => ?_
  rw [if_pos (List.mem_range.1 hj)]
theorem fillU_none (f : Nat → UInt8) (n : Nat) : cells8 (fillU f n 0) = List.replicate n (.int .u8 0) := by
  unfold fillU cells8
  rw [List.map_map]
  rw [List.eq_replicate_iff]
  refine ⟨by simp, fun b hb => ?_⟩
  obtain ⟨j, _, rfl⟩ := List.mem_map.1 hb
  simp
def t8 (v : UInt8) (n : Nat) : UInt8 := UInt8.ofNat (v.toNat * 2 ^ n % 256 ||| v.toNat / 2 ^ (8 - n))
theorem t8_val (v : UInt8) (n : Nat) : (v.toNat * 2 ^ n % 256 ||| v.toNat / 2 ^ (8 - n)) = (t8 v n).toNat := by
  unfold t8
  rw [UInt8.toNat_ofNat_of_lt']
  exact Nat.or_lt_two_pow (n := 8) (Nat.mod_lt _ (by decide)) (Nat.lt_of_le_of_lt (Nat.div_le_self _ _) v.toNat_lt)
def mixIt (v : UInt8) : Nat → UInt8
  | 0 => v ^^^ 99
  | k + 1 => mixIt v k ^^^ t8 v (k + 1)
def boxR (i : Nat) : UInt8 := mixIt (invIt (UInt8.ofNat i) 7).2 4
/-- the box -/
def boxB : List UInt8 := (List.range 256).map boxR
theorem box_check : allB (fun i => boxR i == boxU ((invT 256).getD i 0)) 256 = true := by decide +kernel
theorem boxB_eq : boxT 256 = boxB := by
  unfold boxT boxB
  refine List.map_congr_left fun i hi => ?_
  have := allB_at box_check i (List.mem_range.1 hi)
  exact (eq_of_beq this).symm
theorem boxB_length : boxB.length = 256 := by simp [boxB]
end Go.Proofs.YtckmobpjdpjocaaDoor

namespace Go.Proofs.YtckmobpjdpjocaaDoor
open Go.RowKit

/-- an element's type: of one cell, and no array or struct -/
structure Plain1 (P : Program) (e : TypeId) : Prop where
  size : (P.info? e).map (·.size) = some 1
  plain : (match P.underlying e with | some (.int _) => true | some .bool => true | some .string => true | some (.slice _) => true | some (.pointer _) => true | _ => false) = true
theorem run_index_agg {P : Program} {t e : TypeId} {n : Nat} (ht : P.underlying t = some (.array n e)) (E : Plain1 P e) (cs : List Value) (k : IntKind) (i : Nat) (hi : i < n) (v : Value) (hv : cs[i]? = some v) (w : World) :
    (Instr.index t (.agg cs.toArray) (.int k (i : Int))).run P w = .ok v w := by
  have hin : (0 : Int) ≤ (i : Int) ∧ (i : Int) < (n : Int) := by omega
  obtain ⟨inf, hinf, hsz⟩ : ∃ inf, P.info? e = some inf ∧ inf.size = 1 := by
    have h := E.size
    cases hq : P.info? e with
    | none => simp [hq] at h
    | some x => exact ⟨x, rfl, by simpa [hq] using h⟩
  have hs : (Go.sizeOf e).run P w = .ok 1 w := by simp [Go.sizeOf, typeInfo, hinf, hsz]
  have hp : (part e cs.toArray i).run P w = .ok v w := by
    have hpl := E.plain
    unfold part
    cases hu : P.underlying e with
    | none => rw [hu] at hpl; simp at hpl
    | some d =>
      rw [hu] at hpl
      cases d <;> simp at hpl <;> simp [isAgg, run_underlying hu, hv]
  simp only [Instr.index, asIntOf, Sem.run_bind, Sem.run_pure, Result.andThen_ok, run_underlying ht, if_pos hin, hs, Int.toNat_natCast, Nat.mul_one, hp]

section
variable {P : Program} {w : World} {ops : Array Oper} {rest : List Oper} {o : Oper} {a : Act} {Q : Exit → Act → World → Prop} {t e : TypeId}
theorem wpList_index {n : Nat} (ht : P.underlying t = some (.array n e)) (E : Plain1 P e) (hg : o.guard = none) (x j : Operand) (hop : o.op = .index t x j) {cs : List Value} (hx : a.eval x = .agg cs.toArray) {k : IntKind} {I : Int} (hj : a.eval j = .int k I) (i : Nat) (hI : I = (i : Int)) (hi : i < n) {v : Value} (hv : cs[i]? = some v)
    (h : wpList P ops Q rest (a.put o.dst v) w) : wpList P ops Q (o :: rest) a w := by
  subst hI
  refine wpList_plain hg fun K hK => ?_
  unfold Oper.wp
  simp only [execOp, hop, hx, hj, Sem.run_bind, run_index_agg ht E cs k i hi v hv, Result.andThen_ok, Sem.run_pure]
  exact hK _ _ h
end
end Go.Proofs.YtckmobpjdpjocaaDoor

namespace Go.Proofs.YtckmobpjdpjocaaDoor
open Go.RowKit

def zero256 : List Value := List.replicate 256 (.int .u8 0)
def zero255 : List Value := List.replicate 255 (.int .u8 0)
theorem tyTable : Ty Tryd.prog 75 zero256 := ⟨by kernel_rfl⟩
theorem rwTable : Rw Tryd.prog 75 (.array 256 5) 256 := ⟨by kernel_rfl, rfl, by kernel_rfl⟩
theorem tyPow : Ty Tryd.prog 98 zero255 := ⟨by kernel_rfl⟩
theorem rwPow : Rw Tryd.prog 98 (.array 255 5) 255 := ⟨by kernel_rfl, rfl, by kernel_rfl⟩
theorem plain8 : Plain1 Tryd.prog 5 := ⟨by kernel_rfl, by kernel_rfl⟩
theorem table_built (n : Nat) : Tryd.prog.built 75 [(0, .int .u8 (n : Int))] = some ((Value.int .u8 (n : Int)) :: List.replicate 255 (.int .u8 0)).toArray := by kernel_rfl
theorem mixIt_go (v : UInt8) (n : Nat) : bits .xor .u8 ((mixIt v n).toNat : Int) (((v.toNat * 2 ^ (n + 1) % 256 ||| v.toNat / 2 ^ (8 - (n + 1)) : Nat)) : Int) = ((mixIt v (n + 1)).toNat : Int) := by
  rw [t8_val, u8_xor']; rfl

/-- the powers of 3 -/
def pw : Nat → UInt8
  | 0 => 1
  | k + 1 => pw k ^^^ xt (pw k)
def tabV (k : Nat) : UInt8 := mixIt (pw ((255 - k) % 255)) 4
/-- the table, of which k powers are filled in -/
def tabK : Nat → List UInt8
  | 0 => mixIt 0 4 :: List.replicate 255 0
  | k + 1 => (tabK k).set (pw k).toNat (tabV k)
theorem tabK_length : ∀ k, (tabK k).length = 256
  | 0 => by show (mixIt 0 4 :: List.replicate 255 0).length = 256; rw [List.length_cons, List.length_replicate]
  | k + 1 => by rw [tabK, List.length_set]; exact tabK_length k
theorem tabK_set (k : Nat) : (cells8 (tabK k)).set (pw k).toNat (.int .u8 ((tabV k).toNat : Int)) = cells8 (tabK (k + 1)) := by
  rw [tabK]; unfold cells8; rw [List.map_set]
theorem tab_done : tabK 255 = boxB := by decide +kernel
theorem tabK_none : cells8 (tabK 0) = (Value.int .u8 ((mixIt 0 4).toNat : Int)) :: List.replicate 255 (.int .u8 0) := by
  show cells8 (mixIt 0 4 :: List.replicate 255 0) = _
  unfold cells8
  rw [List.map_cons, List.map_replicate]; rfl

set_option maxHeartbeats 1000000 in
theorem blend_any (v : UInt8) (w : World) : Calls Tryd.prog 47 #[.int .u8 v.toNat] w fun e w' => e = .returned (.int .u8 (mixIt v 4).toNat) ∧ Below w.heap.size w w' := by
  go_enter Tryd.func47, Tryd.ntmps47
  have h99 : bits .xor .u8 (v.toNat : Int) 99 = ((mixIt v 0).toNat : Int) := u8_xor' v 99
  go_wp2
  clear h99
  go_loopg [3, 7] 4 (fun g3 vm vn wx => ∃ n : Nat, n + g3 = 4 ∧ vn = .int .i64 n ∧ vm = .int .u8 (mixIt v n).toNat ∧ Below w.heap.size w wx)
  case atStart => exact ⟨0, by omega, rfl, rfl, Below.refl _ _⟩
  case round =>
    obtain ⟨n, hn, rfl, rfl, hb⟩ := hrel
    cases gk with
    | zero =>
      obtain rfl : n = 4 := by omega
      obtain ⟨x, hx⟩ : ∃ x, x = mixIt v 4 := ⟨_, rfl⟩
      have HX : Kp _ := ⟨hx⟩
      rw [← hx]
      clear hx
      go_wp2
      go_ret
      exact ⟨by rw [← HX.out]; rfl, hb⟩
    | succ g4 =>
      have hnI : (n : Int) < 4 := by omega
      have HX : Kp _ := ⟨mixIt_go v n⟩
      obtain ⟨m, hm⟩ : ∃ m : Nat, m = n + 1 := ⟨_, rfl⟩
      have hmI : (n : Int) + 1 = (m : Int) := by omega
      rw [← hm] at HX
      have h17 : 1 ≤ m ∧ m ≤ 7 := by omega
      have HM : Kp _ := ⟨hm⟩
      clear hm
      go_wp2_with fail
      refine (turn8_any v m _ h17.1 h17.2).mono ?_
      rintro e w' ⟨rfl, q, rfl⟩
      have hxx := HX.out
      generalize (v.toNat * 2 ^ m % 256 ||| v.toNat / 2 ^ (8 - m) : Nat) = tt at *
      go_wp2
      go_roundg g4
      case rel => exact ⟨n + 1, by omega, by go_num, by rw [← HM.out], below_drewN' hb q⟩
      case measure => omega

theorem fillU_at (f : Nat → UInt8) (n k : Nat) (h : k < n) : (cells8 (fillU f n n))[k]? = some (.int .u8 ((f k).toNat : Int)) := by
  rw [fillU_done]; unfold cells8; rw [List.map_map, List.getElem?_map, List.getElem?_range h]; rfl
theorem tab_parts (k : Nat) (_h : k < 255) : ∃ (m : Nat) (p q y : UInt8), m < 255 ∧ (255 - (k : Int)).tmod 255 = (m : Int) ∧ Kp (pw k = p) ∧ Kp (pw m = q) ∧ Kp (mixIt q 4 = y) ∧ Kp (tabV k = y) :=
  ⟨(255 - k) % 255, pw k, pw ((255 - k) % 255), tabV k, Nat.mod_lt _ (by decide), by
    rw [Int.tmod_eq_emod_of_nonneg (by omega)]; omega, ⟨rfl⟩, ⟨rfl⟩, ⟨rfl⟩, ⟨rfl⟩⟩

set_option maxRecDepth 100000 in
set_option maxHeartbeats 4000000 in
theorem makeBox_any (w : World) : Calls Tryd.prog 36 #[] w fun e w' => e = .returned (.agg (cells8 boxB).toArray) ∧ Below w.heap.size w w' := by
  go_enter Tryd.func36, Tryd.ntmps36
  go_wp2_with (with_reducible refine wpList_alloc (o := ⟨some 0, _, _, _, _, _⟩) tyTable rfl rfl ?_)
  intro w1 hk1 hb1 hs1
  have HK1 : Kp _ := ⟨hk1⟩
  clear hk1 hs1
  go_wp2_with (with_reducible refine wpList_alloc (o := ⟨some 1, _, _, _, _, _⟩) tyPow rfl rfl ?_)
  intro w2 hk2 hb2 hs2
  have HR2 : Kp _ := ⟨HK1.out.below hb2 HK1.out.lt⟩
  have HP2 : Kp (Blk w2 w1.heap.size 98 (cells8 (fillU pw 255 0))) := ⟨by rw [fillU_none]; exact hk2⟩
  have hB2 : Below w.heap.size w w2 := hb1.trans (hb2.mono hb1.size)
  obtain ⟨g, hg⟩ : ∃ g, g = w1.heap.size := ⟨_, rfl⟩
  rw [← hg] at HP2 ⊢
  have hgg : w.heap.size < g := by rw [hg]; exact HK1.out.lt
  clear hk2 hb1 hb2 hs2 HK1 hg
  go_wp2
  go_loopg [2, 7] 255 (fun gk vp vi wr => ∃ k : Nat, k + gk = 255 ∧ vi = .int .i64 k ∧ vp = .int .u8 (pw k).toNat ∧ Kp (Blk wr g 98 (cells8 (fillU pw 255 k))) ∧ Only g w2 wr)
  case atStart => exact ⟨0, by omega, rfl, rfl, HP2, Only.refl _ _⟩
  case round =>
    clear HP2
    obtain ⟨k, hk, rfl, rfl, HB, ho⟩ := hrel
    cases gk with
    | succ g2 =>
      have hkI : (k : Int) < 255 := by omega
      have hlt : k < (cells8 (fillU pw 255 k)).length := by rw [cells8_length, fillU_length]; omega
      have hco := HB.out.cell (i := k) hlt
      have hfo := HB.out.frozen k
      have HSet : Kp _ := ⟨fillU_set pw 255 k⟩
      generalize (cells8 (fillU pw 255 k))[k]'_ = q at hco
      have HN : Kp (pw (k + 1) = pw k ^^^ xt (pw k)) := ⟨rfl⟩
      generalize pw k = x at *
      clear hlt
      go_wp2_with (go_at_call 46; refine (double_any _ _).mono ?_; rintro e w' ⟨rfl, rfl⟩)
      have hxx : bits .xor .u8 (x.toNat : Int) ((xt x).toNat : Int) = ((x ^^^ xt x).toNat : Int) := u8_xor' x (xt x)
      go_wp2
      go_roundg g2
      case rel => exact ⟨k + 1, by omega, by go_num, by rw [HN.out, hxx], ⟨by have h3 := HB.out.set k (.int .u8 (x.toNat : Int)); rw [HSet.out] at h3; exact h3⟩, ho.trans (Only.setCell wr ⟨g, k, none⟩ _)⟩
      case measure => omega
    | zero =>
      obtain rfl : k = 255 := by omega
      have hB3 : Below w.heap.size w wr := hB2.trans (ho.below (Nat.le_of_lt hgg))
      have HR3 : Kp _ := ⟨HR2.out.only ho (by omega)⟩
      have HPat : Kp (∀ k, k < 255 → (cells8 (fillU pw 255 255))[k]? = some (.int .u8 ((pw k).toNat : Int))) := ⟨fillU_at pw 255⟩
      have HPl : Kp ((cells8 (fillU pw 255 255)).length = 255) := ⟨by rw [cells8_length, fillU_length]⟩
      generalize cells8 (fillU pw 255 255) = PL at *
      have HZ : Kp (zero256.length = 256) := ⟨by unfold zero256; exact List.length_replicate⟩
      clear hB2 HR2 ho
      generalize pw 255 = p9
      go_wp2_with fail
      have hcall := blend_any 0 wr
      refine hcall.mono ?_
      rintro e w3 ⟨rfl, hb3⟩
      have hB4 := hB3.trans (hb3.mono hB3.size)
      have HP4 : Kp _ := ⟨HB.out.below hb3 HB.out.lt⟩
      have HR4 : Kp _ := ⟨HR3.out.below hb3 HR3.out.lt⟩
      have hg3 : g < w3.heap.size := Nat.lt_of_lt_of_le HB.out.lt hb3.size
      have HT0 : Kp _ := ⟨tabK_none⟩
      generalize mixIt 0 4 = y0 at *
      have HTB : Kp _ := ⟨table_built y0.toNat⟩
      have HTl : Kp ((cells8 (tabK 0)).length = 256) := ⟨by rw [cells8_length, tabK_length]⟩
      rw [← HT0.out] at HTB
      have hone := cells8_one (tabK 0)
      obtain ⟨T0, hT0⟩ : ∃ T, T = cells8 (tabK 0) := ⟨_, rfl⟩
      have HT1 : Kp _ := ⟨hT0⟩
      rw [← hT0] at HT0 HTB HTl hone
      clear hT0
      clear hB3 hb3 HB HR3
      go_wp2_with (first
        | (refine wpList_build1 (o := ⟨some 19, _, _, _, _, _⟩) rfl 0 (.tmp 18) rfl rfl HTB.out ?_)
        | (with_reducible refine wpList_alloc (o := ⟨some 4, _, _, _, _, _⟩) tyTable rfl rfl ?_))
      intro w4 hk4 hb4 hs4
      have HK4 : Kp _ := ⟨hk4⟩
      have HP5 : Kp _ := ⟨HP4.out.below hb4 HP4.out.lt⟩
      have HR5 : Kp _ := ⟨HR4.out.below hb4 HR4.out.lt⟩
      have hB5 := hB4.trans (hb4.mono hB4.size)
      clear hk4 hb4 hs4 HP4 HR4 hB4
      obtain ⟨gt, hgt⟩ : ∃ g, g = w3.heap.size := ⟨_, rfl⟩
      rw [← hgt] at HK4 hg3 ⊢
      clear hgt
      go_wp2_with (refine wpList_storeAll (o := ⟨none, _, _, _, _, _⟩) (vs := T0) rwTable rfl (.tmp 4) (.tmp 19) rfl rfl HK4.out HZ.out HTl.out hone rfl ?_)
      intro w5 hk5 ho5
      have hg5 : w.heap.size < gt := by omega
      have HK5 : Kp (Blk w5 gt 75 T0) := ⟨hk5⟩
      have HP6 : Kp _ := ⟨HP5.out.only ho5 (by omega)⟩
      have HR6 : Kp _ := ⟨HR5.out.only ho5 (by omega)⟩
      have hB6 := hB5.trans (ho5.below (Nat.le_of_lt hg5))
      clear hk5 ho5 HK4 HP5 HR5 hB5 HTB hone HTl
      go_wp2_with (with_reducible refine wpList_loadAll (o := ⟨some 20, _, _, _, _, _⟩) rwPow rfl (.tmp 1) rfl rfl HP6.out HPl.out ?_)
      go_wp2
      go_loopg [21] 255 (fun gk vi wr => ∃ k : Nat, k + gk = 255 ∧ vi = .int .i64 k ∧ Kp (Blk wr gt 75 (cells8 (tabK k))) ∧ Kp (Blk wr g 98 PL) ∧ Kp (Blk wr w.heap.size 75 zero256) ∧ Below w.heap.size w wr)
      case atStart => exact ⟨0, by omega, rfl, ⟨by rw [← HT1.out]; exact HK5.out⟩, HP6, HR6, hB6⟩
      case round =>
        clear HK5 HP6 HR6 hB6
        obtain ⟨k, hk, rfl, HB, HP, HR, hB⟩ := hrel
        cases gk with
        | zero =>
          obtain rfl : k = 255 := by omega
          have HD : Kp (Blk wr gt 75 (cells8 boxB)) := ⟨by rw [← tab_done]; exact HB.out⟩
          have HLen : Kp ((cells8 boxB).length = 256) := ⟨by rw [cells8_length, boxB_length]⟩
          generalize hL : boxB = L at *
          have HL : Kp _ := ⟨hL⟩
          clear HB hL
          go_wp2_with (first
            | (with_reducible refine wpList_loadAll (o := ⟨some 34, _, _, _, _, _⟩) rwTable rfl (.tmp 4) rfl rfl HD.out HLen.out ?_)
            | (with_reducible refine wpList_storeAll (o := ⟨none, _, _, _, _, _⟩) (vs := cells8 L) rwTable rfl (.tmp 0) (.tmp 34) rfl rfl HR.out HZ.out HLen.out (cells8_one _) rfl ?_))
          intro w7 hk7 ho7
          have HK7 : Kp _ := ⟨hk7⟩
          clear hk7
          go_wp2
          exact ret_arr rfl rwTable rfl HK7.out HLen.out rfl ⟨by rw [HL.out], hB.trans (ho7.below (Nat.le_refl _))⟩
        | succ g2 =>
          have hkI : (k : Int) < 255 := by omega
          have hpk := HPat.out k (by omega)
          obtain ⟨m, p, q, y, hm, hrem, HPp, HQ, HY, HV⟩ := tab_parts k (by omega)
          have hpm := HPat.out m hm
          rw [HPp.out] at hpk
          rw [HQ.out] at hpm
          have hPc : wr.cell? ⟨g, m, none⟩ = some (.int .u8 (q.toNat : Int)) := by rw [HP.out.cell?, hpm]
          have hpl := p.toNat_lt
          have hlt : p.toNat < (cells8 (tabK k)).length := by rw [cells8_length, tabK_length]; omega
          have hmI : (m : Int) < 255 := by omega
          have HSet : Kp _ := ⟨tabK_set k⟩
          rw [HPp.out, HV.out] at HSet
          clear hpm hm
          go_wp2_with (with_reducible refine wpList_index (o := ⟨some 24, _, _, _, _, _⟩) rwPow.ty plain8 rfl (.tmp 20) (.tmp 21) rfl rfl rfl k rfl (by omega) hpk ?_)
          have hcall := blend_any q wr
          rw [HY.out] at hcall
          refine hcall.mono ?_
          rintro e w7 ⟨rfl, hb7⟩
          have HB7 : Kp _ := ⟨HB.out.below hb7 HB.out.lt⟩
          have HP7 : Kp _ := ⟨HP.out.below hb7 HP.out.lt⟩
          have HR7 : Kp _ := ⟨HR.out.below hb7 HR.out.lt⟩
          have hB7 := hB.trans (hb7.mono hB.size)
          clear HB HP HR hB hb7 hPc hpk hrem
          have hco := HB7.out.cell (i := p.toNat) hlt
          have hfo := HB7.out.frozen p.toNat
          generalize (cells8 (tabK k))[p.toNat]'_ = qq at hco
          have hpI : (p.toNat : Int) < 256 := by omega
          go_wp2
          go_roundg g2
          case rel =>
            refine ⟨k + 1, by omega, by go_num, ⟨?_⟩, ⟨HP7.out.other (by show g ≠ gt; omega) _⟩, ⟨HR7.out.other (by show w.heap.size ≠ gt; omega) _⟩, hB7.setCell (by show w.heap.size ≤ gt; omega) _⟩
            have h3 := HB7.out.set p.toNat (.int .u8 (y.toNat : Int)); rw [HSet.out] at h3; exact h3
          case measure => omega
end Go.Proofs.YtckmobpjdpjocaaDoor

namespace Go.Proofs.YtckmobpjdpjocaaDoor
open Go.RowKit

def zero4 : List Value := List.replicate 4 (.int .u32 0)
theorem tyState : Ty Tryd.prog 78 zero4 := ⟨by kernel_rfl⟩
theorem rwState : Rw Tryd.prog 78 (.array 4 25) 4 := ⟨by kernel_rfl, rfl, by kernel_rfl⟩
theorem tyBytes : Ty Tryd.prog 22 zero16 := ⟨by kernel_rfl⟩
theorem rwBytes : Rw Tryd.prog 22 (.array 16 5) 16 := ⟨by kernel_rfl, rfl, by kernel_rfl⟩

theorem sub_val (p q r s : UInt8) : bits .or .u32 (bits .or .u32 (bits .or .u32 (IntKind.u32.wrap (IntKind.u32.wrap (p.toNat : Int) * 16777216)) (IntKind.u32.wrap (IntKind.u32.wrap (q.toNat : Int) * 65536))) (IntKind.u32.wrap (IntKind.u32.wrap (r.toNat : Int) * 256))) (IntKind.u32.wrap (s.toNat : Int)) = ((w4 p q r s).toNat : Int) := by
  have hp := p.toNat_lt; have hq := q.toNat_lt; have hr := r.toNat_lt; have hs := s.toNat_lt
  have e1 : IntKind.u32.wrap (IntKind.u32.wrap (p.toNat : Int) * 16777216) = ((w4 p 0 0 0).toNat : Int) := by rw [w4_nat, IntKind.wrap_u32, IntKind.wrap_u32]; simp; omega
  have e2 : IntKind.u32.wrap (IntKind.u32.wrap (q.toNat : Int) * 65536) = ((w4 0 q 0 0).toNat : Int) := by rw [w4_nat, IntKind.wrap_u32, IntKind.wrap_u32]; simp; omega
  have e3 : IntKind.u32.wrap (IntKind.u32.wrap (r.toNat : Int) * 256) = ((w4 0 0 r 0).toNat : Int) := by rw [w4_nat, IntKind.wrap_u32, IntKind.wrap_u32]; simp; omega
  have e4 : IntKind.u32.wrap (s.toNat : Int) = ((w4 0 0 0 s).toNat : Int) := by rw [w4_nat, IntKind.wrap_u32]; simp; omega
  rw [e1, e2, e3, e4, u32_or', u32_or', u32_or', w4_or, w4_or, w4_or]
  simp
theorem box_at {w : World} {g : Nat} {t : TypeId} {bx : List UInt8} (h : Blk w g t (cells8 bx)) (hl : bx.length = 256) (x : UInt8) : w.cell? ⟨g, x.toNat, none⟩ = some (.int .u8 ((bx.getD x.toNat 0).toNat : Int)) := by
  have hx : x.toNat < bx.length := by rw [hl]; exact x.toNat_lt
  rw [h.cell? x.toNat, cells8_at bx _ hx]
  simp [List.getD, List.getElem?_eq_getElem hx]
set_option maxRecDepth 100000 in
set_option maxHeartbeats 2000000 in
theorem sub_any (x : UInt32) (g : Nat) (t : TypeId) (bx : List UInt8) (w : World) (hb : Blk w g t (cells8 bx)) (hl : bx.length = 256) :
    Calls Tryd.prog 48 #[.int .u32 x.toNat, .pointer (some ⟨g, 0, none⟩)] w fun e w' => e = .returned (.int .u32 (subN bx x).toNat) ∧ w' = w.drew := by
  have HV : Kp _ := ⟨sub_val (bx.getD (by4 x 0).toNat 0) (bx.getD (by4 x 1).toNat 0) (bx.getD (by4 x 2).toNat 0) (bx.getD (by4 x 3).toNat 0)⟩
  have c0 := box_at hb hl (by4 x 0)
  have c1 := box_at hb hl (by4 x 1)
  have c2 := box_at hb hl (by4 x 2)
  have c3 := box_at hb hl (by4 x 3)
  have r0 : IntKind.u8.wrap ((x.toNat : Int) / 16777216) = ((by4 x 0).toNat : Int) := by rw [IntKind.wrap_u8]; exact row_val x 0 24 rfl
  have r1 : IntKind.u8.wrap ((x.toNat : Int) / 65536) = ((by4 x 1).toNat : Int) := by rw [IntKind.wrap_u8]; exact row_val x 1 16 rfl
  have r2 : IntKind.u8.wrap ((x.toNat : Int) / 256) = ((by4 x 2).toNat : Int) := by rw [IntKind.wrap_u8]; exact row_val x 2 8 rfl
  have r3 : IntKind.u8.wrap (x.toNat : Int) = ((by4 x 3).toNat : Int) := by rw [IntKind.wrap_u8]; have h := row_val x 3 0 rfl; simpa using h
  have HS : Kp (subN bx x = w4 (bx.getD (by4 x 0).toNat 0) (bx.getD (by4 x 1).toNat 0) (bx.getD (by4 x 2).toNat 0) (bx.getD (by4 x 3).toNat 0)) := ⟨rfl⟩
  generalize bx.getD (by4 x 0).toNat 0 = y0 at *
  generalize bx.getD (by4 x 1).toNat 0 = y1 at *
  generalize bx.getD (by4 x 2).toNat 0 = y2 at *
  generalize bx.getD (by4 x 3).toNat 0 = y3 at *
  have b0 := (by4 x 0).toNat_lt
  have b1 := (by4 x 1).toNat_lt
  have b2 := (by4 x 2).toNat_lt
  have b3 := (by4 x 3).toNat_lt
  generalize (by4 x 0).toNat = i0 at *
  generalize (by4 x 1).toNat = i1 at *
  generalize (by4 x 2).toNat = i2 at *
  generalize (by4 x 3).toNat = i3 at *
  have l0 : (i0 : Int) < 256 := by omega
  have l1 : (i1 : Int) < 256 := by omega
  have l2 : (i2 : Int) < 256 := by omega
  have l3 : (i3 : Int) < 256 := by omega
  clear hb hl b0 b1 b2 b3
  go_enter Tryd.func48, Tryd.ntmps48
  go_wp2_with fail
  go_still (by kernel_rfl)
  change Exit.then _ _ _ _ w.drew
  clear r0 r1 r2 r3 c0 c1 c2 c3 l0 l1 l2 l3
  go_wp2
  go_ret
  refine ⟨?_, rfl⟩
  show Ending.returned (.int .u32 _) = _
  rw [HV.out, HS.out]
end Go.Proofs.YtckmobpjdpjocaaDoor

namespace Go.Proofs.YtckmobpjdpjocaaDoor
open Go.RowKit

theorem col_val (b : List UInt8) (q c : Nat) : bits .or .u32 (IntKind.u32.wrap (((colA b q c).toNat : Int) * 256)) (IntKind.u32.wrap ((b.getD (4 * q + c) 0).toNat : Int)) = ((colA b q (c + 1)).toNat : Int) := by
  have hy := (b.getD (4 * q + c) 0).toNat_lt
  have e1 : IntKind.u32.wrap (((colA b q c).toNat : Int) * 256) = (((colA b q c).toNat * 256 % 4294967296 : Nat) : Int) := by rw [IntKind.wrap_u32]; omega
  have e2 : IntKind.u32.wrap ((b.getD (4 * q + c) 0).toNat : Int) = ((b.getD (4 * q + c) 0).toNat : Int) := by rw [IntKind.wrap_u32]; omega
  rw [e1, e2, u32_or_nat _ _ (Nat.mod_lt _ (by decide)) (by omega), or_low, ← colA_nat]
set_option maxRecDepth 100000 in
set_option maxHeartbeats 4000000 in
theorem columns_any (b : List UInt8) (w : World) (hb : b.length = 16) : Calls Tryd.prog 38 #[.agg (cells8 b).toArray] w fun e w' => e = .returned (.agg (cells32 (wordsL b)).toArray) ∧ Below w.heap.size w w' := by
  have HLb : Kp (b.length = 16) := ⟨hb⟩
  clear hb
  go_enter Tryd.func38, Tryd.ntmps38
  go_wp2_with (with_reducible refine wpList_box (o := ⟨some 1, _, _, _, _, _⟩) rfl (.tmp 0) rfl rfl ?_)
  intro w1 hk1 hb1 hs1
  have HK1 : Kp _ := ⟨hk1⟩
  clear hk1 hs1
  go_wp2_with (with_reducible refine wpList_alloc (o := ⟨some 2, _, _, _, _, _⟩) tyState rfl rfl ?_)
  intro w2 hk2 hb2 hs2
  have HR2 : Kp _ := ⟨hk2⟩
  have HK12 : Kp _ := ⟨HK1.out.below hb2 HK1.out.lt⟩
  have hB2 : Below w.heap.size w w2 := hb1.trans (hb2.mono hb1.size)
  have n1 : w.heap.size < w1.heap.size := HK1.out.lt
  clear hk2 hs2 hb1 hb2 HK1
  go_wp2_with (with_reducible refine wpList_alloc (o := ⟨some 3, _, _, _, _, _⟩) tyState rfl rfl ?_)
  intro w3 hk3 hb3 hs3
  have HR3 : Kp _ := ⟨HR2.out.below hb3 HR2.out.lt⟩
  have HK13 : Kp _ := ⟨HK12.out.below hb3 HK12.out.lt⟩
  have HK3 : Kp (Blk w3 w2.heap.size 78 (cells32 (colS b 0))) := ⟨by rw [colS_none]; exact hk3⟩
  have n2 : w1.heap.size < w2.heap.size := HR2.out.lt
  have hB3 : Below w.heap.size w w3 := hB2.trans (hb3.mono hB2.size)
  obtain ⟨g1, hg1⟩ : ∃ g, g = w1.heap.size := ⟨_, rfl⟩
  obtain ⟨g2, hg2⟩ : ∃ g, g = w2.heap.size := ⟨_, rfl⟩
  rw [← hg1] at HR3 n1 n2 ⊢
  rw [← hg2] at HK3 n2 ⊢
  clear hk3 hs3 hb3 HR2 HK12 hB2 hg1 hg2
  go_wp2
  go_loopw [5] (fun vi wr => ∃ i : Nat, i ≤ 16 ∧ vi = .int .i64 i ∧ Kp (Blk wr g2 78 (cells32 (colS b i))) ∧ Only g2 w3 wr) (fun vi _ => 16 - (intOf vi).toNat)
  case atStart => exact ⟨0, by omega, rfl, HK3, Only.refl _ _⟩
  case round =>
    clear HK3
    obtain ⟨i, hi, rfl, HB, ho⟩ := hrel
    by_cases hlt : i < 16
    · have cs := (HB.out.cell? (i / 4)).trans (colS_at b i hlt)
      have cb : wr.cell? ⟨w.heap.size, i, none⟩ = some (.int .u8 ((b.getD i 0).toNat : Int)) := by
        rw [(HK13.out.only ho (by omega)).cell? i, cells8_at b i (by rw [HLb.out]; exact hlt)]
        simp [List.getD, List.getElem?_eq_getElem (show i < b.length by rw [HLb.out]; exact hlt)]
      have hfo := HB.out.frozen (i / 4)
      have HSet : Kp _ := ⟨colS_set b i⟩
      have HV : Kp _ := ⟨col_val b (i / 4) (i % 4)⟩
      rw [show 4 * (i / 4) + i % 4 = i by omega] at HV
      obtain ⟨q, hq⟩ : ∃ q, q = i / 4 := ⟨_, rfl⟩
      rw [← hq] at cs hfo HSet HV
      generalize colA b q (i % 4) = x at *
      generalize colA b q (i % 4 + 1) = y at *
      generalize b.getD i 0 = z at *
      have hq1 : (i : Int) / 4 = (q : Int) := by omega
      have hq2 : (i : Int).tdiv 4 = (q : Int) := by rw [Int.tdiv_eq_ediv_of_nonneg (by omega)]; exact hq1
      have hq3 : IntKind.i64.wrap (q : Int) = (q : Int) := by rw [IntKind.wrap_i64]; omega
      have hq4 : (q : Int) < 4 := by omega
      have hi16 : (i : Int) < 16 := by omega
      clear hq
      go_wp2_with fail
      go_still_tail 12, (by kernel_rfl)
      change wpList _ _ _ _ _ wr.drew
      go_wp2
      refine ⟨⟨i + 1, by omega, by go_num, ⟨?_⟩, (ho.trans (Only.setCell wr ⟨g2, q, none⟩ _)).drew⟩, by simp [intOf]; omega⟩
      have HV2 := HV.out
      rw [IntKind.wrap_u32, IntKind.wrap_u32] at HV2
      rw [HV2]
      have h3 := (HB.out.set q (.int .u32 (y.toNat : Int))).drew
      rw [HSet.out] at h3
      exact h3
    · obtain rfl : i = 16 := by omega
      have HD : Kp (Blk wr g2 78 (cells32 (wordsL b))) := ⟨by rw [← colS_done]; exact HB.out⟩
      have HLen : Kp ((cells32 (wordsL b)).length = 4) := ⟨by rw [cells32_length, wordsL_length]⟩
      have HZ : Kp (zero4.length = 4) := ⟨rfl⟩
      have HRr : Kp _ := ⟨HR3.out.only ho (by omega)⟩
      generalize hL : wordsL b = L at *
      have HL : Kp _ := ⟨hL⟩
      clear HB hL
      go_wp2_with (first
        | (with_reducible refine wpList_loadAll (o := ⟨some 22, _, _, _, _, _⟩) rwState rfl (.tmp 3) rfl rfl HD.out HLen.out ?_)
        | (with_reducible refine wpList_storeAll (o := ⟨none, _, _, _, _, _⟩) (vs := cells32 L) rwState rfl (.tmp 2) (.tmp 22) rfl rfl HRr.out HZ.out HLen.out (cells32_one _) rfl ?_))
      intro w5 hk5 ho5
      have HK5 : Kp _ := ⟨hk5⟩
      clear hk5
      go_wp2
      exact ret_arr rfl rwState rfl HK5.out HLen.out rfl ⟨by first | rfl | rw [HL.out], (hB3.trans (ho.below (by omega))).trans (ho5.below (by omega))⟩

set_option maxRecDepth 100000 in
set_option maxHeartbeats 4000000 in
theorem bytes_any (l : List UInt8) (w : World) (hl : l.length = 16) : Calls Tryd.prog 41 #[.agg (cells32 (wordsL l)).toArray] w fun e w' => e = .returned (.agg (cells8 l).toArray) ∧ Below w.heap.size w w' := by
  have HLl : Kp (l.length = 16) := ⟨hl⟩
  clear hl
  go_enter Tryd.func41, Tryd.ntmps41
  go_wp2_with (with_reducible refine wpList_box (o := ⟨some 1, _, _, _, _, _⟩) rfl (.tmp 0) rfl rfl ?_)
  intro w1 hk1 hb1 hs1
  have HK1 : Kp _ := ⟨hk1⟩
  clear hk1 hs1
  go_wp2_with (with_reducible refine wpList_alloc (o := ⟨some 2, _, _, _, _, _⟩) tyBytes rfl rfl ?_)
  intro w2 hk2 hb2 hs2
  have HR2 : Kp _ := ⟨hk2⟩
  have HK12 : Kp _ := ⟨HK1.out.below hb2 HK1.out.lt⟩
  have hB2 : Below w.heap.size w w2 := hb1.trans (hb2.mono hb1.size)
  have n1 : w.heap.size < w1.heap.size := HK1.out.lt
  clear hk2 hs2 hb1 hb2 HK1
  go_wp2_with (with_reducible refine wpList_alloc (o := ⟨some 3, _, _, _, _, _⟩) tyBytes rfl rfl ?_)
  intro w3 hk3 hb3 hs3
  have HR3 : Kp _ := ⟨HR2.out.below hb3 HR2.out.lt⟩
  have HK13 : Kp _ := ⟨HK12.out.below hb3 HK12.out.lt⟩
  have HK3 : Kp (Blk w3 w2.heap.size 22 (cells8 (fillU (fun i => by4 (wd l (i / 4)) (i % 4)) 16 0))) := ⟨by rw [fillU_none]; exact hk3⟩
  have n2 : w1.heap.size < w2.heap.size := HR2.out.lt
  have hB3 : Below w.heap.size w w3 := hB2.trans (hb3.mono hB2.size)
  obtain ⟨g1, hg1⟩ : ∃ g, g = w1.heap.size := ⟨_, rfl⟩
  obtain ⟨g2, hg2⟩ : ∃ g, g = w2.heap.size := ⟨_, rfl⟩
  rw [← hg1] at HR3 n1 n2 ⊢
  rw [← hg2] at HK3 n2 ⊢
  clear hk3 hs3 hb3 HR2 HK12 hB2 hg1 hg2
  go_wp2
  go_loopw [5] (fun vi wr => ∃ i : Nat, i ≤ 16 ∧ vi = .int .i64 i ∧ Kp (Blk wr g2 22 (cells8 (fillU (fun i => by4 (wd l (i / 4)) (i % 4)) 16 i))) ∧ Only g2 w3 wr) (fun vi _ => 16 - (intOf vi).toNat)
  case atStart => exact ⟨0, by omega, rfl, HK3, Only.refl _ _⟩
  case round =>
    clear HK3
    obtain ⟨i, hi, rfl, HB, ho⟩ := hrel
    by_cases hlt : i < 16
    · have cs := ((HK13.out.only ho (by omega)).cell? (i / 4)).trans (wordsL_at l (i / 4) (by omega))
      have hll : i < (cells8 (fillU (fun i => by4 (wd l (i / 4)) (i % 4)) 16 i)).length := by rw [cells8_length, fillU_length]; exact hlt
      have hco := HB.out.cell (i := i) hll
      have hfo := HB.out.frozen i
      have HSet : Kp _ := ⟨fillU_set (fun i => by4 (wd l (i / 4)) (i % 4)) 16 i⟩
      generalize (cells8 (fillU (fun i => by4 (wd l (i / 4)) (i % 4)) 16 i))[i]'_ = old at hco
      obtain ⟨q, hq⟩ : ∃ q, q = i / 4 := ⟨_, rfl⟩
      obtain ⟨r, hr⟩ : ∃ r, r = i % 4 := ⟨_, rfl⟩
      rw [← hq] at cs
      have hq1 : (i : Int) / 4 = (q : Int) := by omega
      have hq2 : (i : Int) % 4 = (r : Int) := by omega
      have hq4 : (q : Int) < 4 := by omega
      have hr3 : Kp (r ≤ 3) := ⟨by omega⟩
      have hi16 : (i : Int) < 16 := by omega
      have HV : Kp (by4 (wd l (i / 4)) (i % 4) = by4 (wd l q) r) := ⟨by rw [hq, hr]⟩
      generalize wd l q = x at *
      clear hq hr hll
      go_wp2_with fail
      refine (row_any x r _ hr3.out).mono ?_
      rintro e w' ⟨rfl, rfl⟩
      generalize by4 x r = y at *
      go_wp2
      refine ⟨⟨i + 1, by omega, by go_num, ⟨?_⟩, ho.trans (Only.setCell w' ⟨g2, i, none⟩ _)⟩, by simp [intOf]; omega⟩
      have h3 := HB.out.set i (.int .u8 (y.toNat : Int))
      have h4 := HSet.out
      simp only [HV.out] at h4
      rw [h4] at h3
      exact h3
    · obtain rfl : i = 16 := by omega
      have HD : Kp (Blk wr g2 22 (cells8 l)) := ⟨by
        have h := HB.out
        rw [fillU_done] at h
        simp only [by4_wd] at h
        rw [range_getD l 16 HLl.out] at h
        exact h⟩
      have HLen : Kp ((cells8 l).length = 16) := ⟨by rw [cells8_length, HLl.out]⟩
      have HZ : Kp (zero16.length = 16) := ⟨rfl⟩
      have HRr : Kp _ := ⟨HR3.out.only ho (by omega)⟩
      clear HB
      go_wp2_with (first
        | (with_reducible refine wpList_loadAll (o := ⟨some 18, _, _, _, _, _⟩) rwBytes rfl (.tmp 3) rfl rfl HD.out HLen.out ?_)
        | (with_reducible refine wpList_storeAll (o := ⟨none, _, _, _, _, _⟩) (vs := cells8 l) rwBytes rfl (.tmp 2) (.tmp 18) rfl rfl HRr.out HZ.out HLen.out (cells8_one _) rfl ?_))
      intro w5 hk5 ho5
      have HK5 : Kp _ := ⟨hk5⟩
      clear hk5
      go_wp2
      exact ret_arr rfl rwBytes rfl HK5.out HLen.out rfl ⟨rfl, (hB3.trans (ho.below (by omega))).trans (ho5.below (by omega))⟩

set_option maxRecDepth 100000 in
set_option maxHeartbeats 4000000 in
theorem add_any (l m : List UInt8) (w : World) : Calls Tryd.prog 50 #[.agg (cells32 (wordsL l)).toArray, .agg (cells32 (wordsL m)).toArray] w fun e w' => e = .returned (.agg (cells32 (wordsL (addL l m 16))).toArray) ∧ Below w.heap.size w w' := by
  go_enter Tryd.func50, Tryd.ntmps50
  go_wp2_with (with_reducible refine wpList_box (o := ⟨some 2, _, _, _, _, _⟩) rfl (.tmp 0) rfl rfl ?_)
  intro w1 hk1 hb1 hs1
  have HK1 : Kp _ := ⟨hk1⟩
  clear hk1 hs1
  go_wp2_with (with_reducible refine wpList_box (o := ⟨some 3, _, _, _, _, _⟩) rfl (.tmp 1) rfl rfl ?_)
  intro w2 hk2 hb2 hs2
  have HR2 : Kp _ := ⟨hk2⟩
  have HK12 : Kp _ := ⟨HK1.out.below hb2 HK1.out.lt⟩
  have hB2 : Below w.heap.size w w2 := hb1.trans (hb2.mono hb1.size)
  have n1 : w.heap.size < w1.heap.size := HK1.out.lt
  clear hk2 hs2 hb1 hb2 HK1
  go_wp2_with (with_reducible refine wpList_alloc (o := ⟨some 4, _, _, _, _, _⟩) tyState rfl rfl ?_)
  intro w3 hk3 hb3 hs3
  have HR3 : Kp _ := ⟨HR2.out.below hb3 HR2.out.lt⟩
  have HK13 : Kp (Blk w3 w.heap.size 78 (cells32 (partW (fun j => wd l j ^^^ wd m j) (wd l) 4 0))) := ⟨by rw [partW_none]; exact HK12.out.below hb3 HK12.out.lt⟩
  have HK3 : Kp _ := ⟨hk3⟩
  have n2 : w1.heap.size < w2.heap.size := HR2.out.lt
  have hB3 : Below w.heap.size w w3 := hB2.trans (hb3.mono hB2.size)
  obtain ⟨g1, hg1⟩ : ∃ g, g = w1.heap.size := ⟨_, rfl⟩
  obtain ⟨g2, hg2⟩ : ∃ g, g = w2.heap.size := ⟨_, rfl⟩
  rw [← hg1] at HR3 n1 n2 ⊢
  rw [← hg2] at HK3 n2 ⊢
  clear hk3 hs3 hb3 HR2 HK12 hB2 hg1 hg2
  go_wp2
  go_loopw [6] (fun vi wr => ∃ i : Nat, i ≤ 4 ∧ vi = .int .i64 i ∧ Kp (Blk wr w.heap.size 78 (cells32 (partW (fun j => wd l j ^^^ wd m j) (wd l) 4 i))) ∧ Only w.heap.size w3 wr) (fun vi _ => 4 - (intOf vi).toNat)
  case atStart => exact ⟨0, by omega, rfl, HK13, Only.refl _ _⟩
  case round =>
    clear HK13
    obtain ⟨i, hi, rfl, HB, ho⟩ := hrel
    by_cases hlt : i < 4
    · have cs := (HB.out.cell? i).trans (partW_at (fun j => wd l j ^^^ wd m j) (wd l) 4 i hlt)
      have cx := ((HR3.out.only ho (by omega)).cell? i).trans (wordsL_at m i hlt)
      have hfo := HB.out.frozen i
      have HSet : Kp _ := ⟨partW_set (fun j => wd l j ^^^ wd m j) (wd l) 4 i⟩
      generalize hp : wd l i = x at cs
      generalize hq : wd m i = y at cx
      simp only [hp, hq] at HSet
      have hv := u32_xor' x y
      clear hp hq
      have hi16 : (i : Int) < 4 := by omega
      go_wp2_with fail
      go_still_tail 7, (by kernel_rfl)
      change wpList _ _ _ _ _ wr.drew
      go_wp2
      refine ⟨⟨i + 1, by omega, by go_num, ⟨?_⟩, (ho.trans (Only.setCell wr ⟨w.heap.size, i, none⟩ _)).drew⟩, by simp [intOf]; omega⟩
      have h3 := (HB.out.set i (.int .u32 ((x ^^^ y).toNat : Int))).drew
      rw [HSet.out] at h3
      first | exact h3 | (rw [← hv] at h3; exact h3)
    · obtain rfl : i = 4 := by omega
      have HD : Kp (Blk wr w.heap.size 78 (cells32 (wordsL (addL l m 16)))) := ⟨by
        have h := HB.out
        rw [partW_done, wordsL_of _ (addL l m 16) (fun j hj => add_wd l m j hj)] at h
        exact h⟩
      have HLen : Kp ((cells32 (wordsL (addL l m 16))).length = 4) := ⟨by rw [cells32_length, wordsL_length]⟩
      have HZ : Kp (zero4.length = 4) := ⟨rfl⟩
      have HRr : Kp _ := ⟨HK3.out.only ho (by omega)⟩
      generalize hL : wordsL (addL l m 16) = L at *
      have HL : Kp _ := ⟨hL⟩
      clear HB hL
      go_wp2_with (first
        | (with_reducible refine wpList_loadAll (o := ⟨some 18, _, _, _, _, _⟩) rwState rfl (.tmp 2) rfl rfl HD.out HLen.out ?_)
        | (with_reducible refine wpList_storeAll (o := ⟨none, _, _, _, _, _⟩) (vs := cells32 L) rwState rfl (.tmp 4) (.tmp 18) rfl rfl HRr.out HZ.out HLen.out (cells32_one _) rfl ?_))
      intro w5 hk5 ho5
      have HK5 : Kp _ := ⟨hk5⟩
      clear hk5
      go_wp2
      exact ret_arr rfl rwState rfl HK5.out HLen.out rfl ⟨by first | rfl | rw [HL.out], (hB3.trans (ho.below (by omega))).trans (ho5.below (by omega))⟩
end Go.Proofs.YtckmobpjdpjocaaDoor

namespace Go.Proofs.YtckmobpjdpjocaaDoor
open Go.RowKit

theorem sel_val (p q r s : UInt32) : bits .or .u32 (bits .or .u32 (bits .or .u32 (bits .and .u32 (p.toNat : Int) 4278190080) (bits .and .u32 (q.toNat : Int) 16711680)) (bits .and .u32 (r.toNat : Int) 65280)) (bits .and .u32 (s.toNat : Int) 255) = ((selW p q r s).toNat : Int) := by
  have e1 : (4278190080 : Int) = ((4278190080 : UInt32).toNat : Int) := rfl
  have e2 : (16711680 : Int) = ((16711680 : UInt32).toNat : Int) := rfl
  have e3 : (65280 : Int) = ((65280 : UInt32).toNat : Int) := rfl
  have e4 : (255 : Int) = ((255 : UInt32).toNat : Int) := rfl
  rw [e1, e2, e3, e4, u32_and', u32_and', u32_and', u32_and', u32_or', u32_or', u32_or']
  rfl
set_option maxRecDepth 100000 in
set_option maxHeartbeats 4000000 in
theorem shift_any (l : List UInt8) (gx : Nat) (t : TypeId) (bx : List UInt8) (w : World) (hb : Blk w gx t (cells8 bx)) (hl : bx.length = 256) :
    Calls Tryd.prog 52 #[.agg (cells32 (wordsL l)).toArray, .pointer (some ⟨gx, 0, none⟩)] w fun e w' => e = .returned (.agg (cells32 (wordsL (shiftL l bx 16))).toArray) ∧ Below w.heap.size w w' := by
  have HX : Kp _ := ⟨hb⟩
  have HLx : Kp (bx.length = 256) := ⟨hl⟩
  have hgx := hb.lt
  clear hb hl
  go_enter Tryd.func52, Tryd.ntmps52
  go_wp2_with (with_reducible refine wpList_box (o := ⟨some 2, _, _, _, _, _⟩) rfl (.tmp 0) rfl rfl ?_)
  intro w1 hk1 hb1 hs1
  have HK1 : Kp _ := ⟨hk1⟩
  clear hk1 hs1
  go_wp2_with (with_reducible refine wpList_alloc (o := ⟨some 4, _, _, _, _, _⟩) tyState rfl rfl ?_)
  intro w2 hk2 hb2 hs2
  have HR2 : Kp _ := ⟨hk2⟩
  have HK12 : Kp _ := ⟨HK1.out.below hb2 HK1.out.lt⟩
  have hB2 : Below w.heap.size w w2 := hb1.trans (hb2.mono hb1.size)
  have n1 : w.heap.size < w1.heap.size := HK1.out.lt
  clear hk2 hs2 hb1 hb2 HK1
  go_wp2_with (with_reducible refine wpList_alloc (o := ⟨some 5, _, _, _, _, _⟩) tyState rfl rfl ?_)
  intro w3 hk3 hb3 hs3
  have HR3 : Kp _ := ⟨HR2.out.below hb3 HR2.out.lt⟩
  have HK13 : Kp _ := ⟨HK12.out.below hb3 HK12.out.lt⟩
  have HK3 : Kp (Blk w3 w2.heap.size 78 (cells32 (partW (fun j => subN bx (selW (wd l j) (wd l ((j + 1) % 4)) (wd l ((j + 2) % 4)) (wd l ((j + 3) % 4)))) (fun _ => 0) 4 0))) := ⟨by rw [partW_none]; exact hk3⟩
  have n2 : w1.heap.size < w2.heap.size := HR2.out.lt
  have hB3 : Below w.heap.size w w3 := hB2.trans (hb3.mono hB2.size)
  have HX3 : Kp _ := ⟨HX.out.below hB3 hgx⟩
  obtain ⟨g1, hg1⟩ : ∃ g, g = w1.heap.size := ⟨_, rfl⟩
  obtain ⟨g2, hg2⟩ : ∃ g, g = w2.heap.size := ⟨_, rfl⟩
  rw [← hg1] at HR3 n1 n2 ⊢
  rw [← hg2] at HK3 n2 ⊢
  clear hk3 hs3 hb3 HR2 HK12 hB2 hg1 hg2 HX
  go_wp2
  go_loopw [10] (fun vi wr => ∃ i : Nat, i ≤ 4 ∧ vi = .int .i64 i ∧ Kp (Blk wr g2 78 (cells32 (partW (fun j => subN bx (selW (wd l j) (wd l ((j + 1) % 4)) (wd l ((j + 2) % 4)) (wd l ((j + 3) % 4)))) (fun _ => 0) 4 i))) ∧ Only g2 w3 wr) (fun vi _ => 4 - (intOf vi).toNat)
  case atStart => exact ⟨0, by omega, rfl, HK3, Only.refl _ _⟩
  case round =>
    clear HK3
    obtain ⟨i, hi, rfl, HB, ho⟩ := hrel
    by_cases hlt : i < 4
    · have HKr : Kp _ := ⟨HK13.out.only ho (by omega)⟩
      have c0 := (HKr.out.cell? i).trans (wordsL_at l i hlt)
      have c1 := (HKr.out.cell? ((i + 1) % 4)).trans (wordsL_at l ((i + 1) % 4) (by omega))
      have c2 := (HKr.out.cell? ((i + 2) % 4)).trans (wordsL_at l ((i + 2) % 4) (by omega))
      have c3 := (HKr.out.cell? ((i + 3) % 4)).trans (wordsL_at l ((i + 3) % 4) (by omega))
      have HXr : Kp _ := ⟨HX3.out.only ho (by omega)⟩
      have hco := (HB.out.cell? i).trans (partW_at (fun j => subN bx (selW (wd l j) (wd l ((j + 1) % 4)) (wd l ((j + 2) % 4)) (wd l ((j + 3) % 4)))) (fun _ => 0) 4 i hlt)
      have hfo := HB.out.frozen i
      have HSet : Kp ((cells32 (partW (fun j => subN bx (selW (wd l j) (wd l ((j + 1) % 4)) (wd l ((j + 2) % 4)) (wd l ((j + 3) % 4)))) (fun _ => 0) 4 i)).set i (.int .u32 ((subN bx (selW (wd l i) (wd l ((i + 1) % 4)) (wd l ((i + 2) % 4)) (wd l ((i + 3) % 4)))).toNat : Int)) = _) := ⟨partW_set _ (fun _ => 0) 4 i⟩
      have HV : Kp _ := ⟨sel_val (wd l i) (wd l ((i + 1) % 4)) (wd l ((i + 2) % 4)) (wd l ((i + 3) % 4))⟩
      obtain ⟨i1, h1⟩ : ∃ q, q = (i + 1) % 4 := ⟨_, rfl⟩
      obtain ⟨i2, h2⟩ : ∃ q, q = (i + 2) % 4 := ⟨_, rfl⟩
      obtain ⟨i3, h3⟩ : ∃ q, q = (i + 3) % 4 := ⟨_, rfl⟩
      rw [← h1] at c1
      rw [← h2] at c2
      rw [← h3] at c3
      have HV2 : Kp (bits .or .u32 (bits .or .u32 (bits .or .u32 (bits .and .u32 ((wd l i).toNat : Int) 4278190080) (bits .and .u32 ((wd l i1).toNat : Int) 16711680)) (bits .and .u32 ((wd l i2).toNat : Int) 65280)) (bits .and .u32 ((wd l i3).toNat : Int) 255) = ((selW (wd l i) (wd l ((i + 1) % 4)) (wd l ((i + 2) % 4)) (wd l ((i + 3) % 4))).toNat : Int)) := ⟨by rw [h1, h2, h3]; exact HV.out⟩
      have a1 : ((i : Int) + 1).tmod 4 = (i1 : Int) := by rw [Int.tmod_eq_emod_of_nonneg (by omega)]; omega
      have a2 : ((i : Int) + 2).tmod 4 = (i2 : Int) := by rw [Int.tmod_eq_emod_of_nonneg (by omega)]; omega
      have a3 : ((i : Int) + 3).tmod 4 = (i3 : Int) := by rw [Int.tmod_eq_emod_of_nonneg (by omega)]; omega
      have b1 : IntKind.i64.wrap ((i : Int) + 1) = (i : Int) + 1 := by rw [IntKind.wrap_i64]; omega
      have b2 : IntKind.i64.wrap ((i : Int) + 2) = (i : Int) + 2 := by rw [IntKind.wrap_i64]; omega
      have b3 : IntKind.i64.wrap ((i : Int) + 3) = (i : Int) + 3 := by rw [IntKind.wrap_i64]; omega
      have d1 : (i1 : Int) < 4 := by omega
      have d2 : (i2 : Int) < 4 := by omega
      have d3 : (i3 : Int) < 4 := by omega
      have hi4 : (i : Int) < 4 := by omega
      generalize selW (wd l i) (wd l ((i + 1) % 4)) (wd l ((i + 2) % 4)) (wd l ((i + 3) % 4)) = x at *
      generalize wd l i = y0 at *
      generalize wd l i1 = y1 at *
      generalize wd l i2 = y2 at *
      generalize wd l i3 = y3 at *
      clear h1 h2 h3 HV HKr
      go_wp2_with fail
      go_still (by kernel_rfl)
      change Exit.then _ _ _ _ wr.drew
      have c0' : wr.drew.cell? ⟨w.heap.size, i, none⟩ = some (.int .u32 (y0.toNat : Int)) := c0
      clear c0 c1 c2 c3
      go_wp2_with fail
      rw [HV2.out]
      refine (sub_any x gx t bx wr.drew HXr.out.drew HLx.out).mono ?_
      rintro e w' ⟨rfl, rfl⟩
      generalize subN bx x = y at *
      have hco2 : wr.drew.drew.cell? ⟨g2, i, none⟩ = _ := hco
      have hfo2 : wr.drew.drew.frozen? ⟨g2, i, none⟩ = false := hfo
      clear hco hfo c0' HV2 a1 a2 a3 b1 b2 b3 d1 d2 d3
      go_wp2
      refine ⟨⟨i + 1, by omega, by go_num, ⟨?_⟩, ((ho.drew).drew.trans (Only.setCell wr.drew.drew ⟨g2, i, none⟩ _))⟩, by simp [intOf]; omega⟩
      have h3 := (HB.out.drew.drew.set i (.int .u32 (y.toNat : Int)))
      rw [HSet.out] at h3
      exact h3
    · obtain rfl : i = 4 := by omega
      have HD : Kp (Blk wr g2 78 (cells32 (wordsL (shiftL l bx 16)))) := ⟨by
        have h := HB.out
        rw [partW_done, wordsL_of _ (shiftL l bx 16) (fun j hj => shift_wd l bx j hj)] at h
        exact h⟩
      have HLen : Kp ((cells32 (wordsL (shiftL l bx 16))).length = 4) := ⟨by rw [cells32_length, wordsL_length]⟩
      have HZ : Kp (zero4.length = 4) := ⟨rfl⟩
      have HRr : Kp _ := ⟨HR3.out.only ho (by omega)⟩
      generalize hL : wordsL (shiftL l bx 16) = L at *
      have HL : Kp _ := ⟨hL⟩
      clear HB hL
      go_wp2_with (first
        | (with_reducible refine wpList_loadAll (o := ⟨some 46, _, _, _, _, _⟩) rwState rfl (.tmp 5) rfl rfl HD.out HLen.out ?_)
        | (with_reducible refine wpList_storeAll (o := ⟨none, _, _, _, _, _⟩) (vs := cells32 L) rwState rfl (.tmp 4) (.tmp 46) rfl rfl HRr.out HZ.out HLen.out (cells32_one _) rfl ?_))
      intro w5 hk5 ho5
      have HK5 : Kp _ := ⟨hk5⟩
      clear hk5
      go_wp2
      exact ret_arr rfl rwState rfl HK5.out HLen.out rfl ⟨by first | rfl | rw [HL.out], (hB3.trans (ho.below (by omega))).trans (ho5.below (by omega))⟩

theorem mix_words (l : List UInt8) (j : Nat) (h : j < 4) : ∃ a b c d : UInt8, wd l j = w4 a b c d ∧ wd (mixL l 16) j = w4 (xt (a ^^^ b)) (xt (b ^^^ c)) (xt (c ^^^ d)) (xt (d ^^^ a)) ^^^ w4 b c d a ^^^ w4 c d a b ^^^ w4 d a b c := by
  refine ⟨_, _, _, _, rfl, ?_⟩
  have h2 := mix_wd l j h
  apply UInt32.toNat_inj.1
  rw [← h2]
  unfold wd
  rw [mix_w4, w4_xor, w4_xor, w4_xor]
theorem plainU32 : Plain1 Tryd.prog 25 := ⟨by kernel_rfl, by kernel_rfl⟩
theorem turn_8 (a b c d : UInt8) (w : World) : Calls Tryd.prog 49 #[.int .u32 (w4 a b c d).toNat, .int .i64 8] w fun e w' => e = .returned (.int .u32 (w4 b c d a).toNat) ∧ ∃ q, w' = w.drewN q := by
  have h := turn32_any (w4 a b c d) 8 w (by decide) (by decide)
  rw [rot8] at h; exact h
theorem turn_16 (a b c d : UInt8) (w : World) : Calls Tryd.prog 49 #[.int .u32 (w4 a b c d).toNat, .int .i64 16] w fun e w' => e = .returned (.int .u32 (w4 c d a b).toNat) ∧ ∃ q, w' = w.drewN q := by
  have h := turn32_any (w4 a b c d) 16 w (by decide) (by decide)
  rw [rot16] at h; exact h
theorem turn_24 (a b c d : UInt8) (w : World) : Calls Tryd.prog 49 #[.int .u32 (w4 a b c d).toNat, .int .i64 24] w fun e w' => e = .returned (.int .u32 (w4 d a b c).toNat) ∧ ∃ q, w' = w.drewN q := by
  have h := turn32_any (w4 a b c d) 24 w (by decide) (by decide)
  rw [rot24] at h; exact h
theorem dblAll_w4 (a b c d : UInt8) (w : World) : Calls Tryd.prog 63 #[.int .u32 (w4 (a ^^^ b) (b ^^^ c) (c ^^^ d) (d ^^^ a)).toNat] w fun e w' => e = .returned (.int .u32 (w4 (xt (a ^^^ b)) (xt (b ^^^ c)) (xt (c ^^^ d)) (xt (d ^^^ a))).toNat) ∧ w' = w := by
  have h := dblAll_any (w4 (a ^^^ b) (b ^^^ c) (c ^^^ d) (d ^^^ a)) w
  rw [dbl_w4] at h; exact h
set_option maxRecDepth 100000 in
set_option maxHeartbeats 4000000 in
theorem mix_any (l : List UInt8) (w : World) :
    Calls Tryd.prog 51 #[.agg (cells32 (wordsL l)).toArray] w fun e w' => e = .returned (.agg (cells32 (wordsL (mixL l 16))).toArray) ∧ Below w.heap.size w w' := by
  go_enter Tryd.func51, Tryd.ntmps51
  go_wp2_with (with_reducible refine wpList_box (o := ⟨some 1, _, _, _, _, _⟩) rfl (.tmp 0) rfl rfl ?_)
  intro w1 hk1 hb1 hs1
  have HK1 : Kp _ := ⟨hk1⟩
  clear hk1 hs1
  go_wp2_with (with_reducible refine wpList_alloc (o := ⟨some 2, _, _, _, _, _⟩) tyState rfl rfl ?_)
  intro w2 hk2 hb2 hs2
  have HR2 : Kp _ := ⟨hk2⟩
  have HK12 : Kp (Blk w2 w.heap.size 78 (cells32 (partW (wd (mixL l 16)) (wd l) 4 0))) := ⟨by rw [partW_none]; exact HK1.out.below hb2 HK1.out.lt⟩
  have HW : Kp _ := ⟨HK1.out.below hb2 HK1.out.lt⟩
  have HLw : Kp ((cells32 (wordsL l)).length = 4) := ⟨by rw [cells32_length, wordsL_length]⟩
  have hB2 : Below w.heap.size w w2 := hb1.trans (hb2.mono hb1.size)
  have n1 : w.heap.size < w1.heap.size := HK1.out.lt
  obtain ⟨g1, hg1⟩ : ∃ g, g = w1.heap.size := ⟨_, rfl⟩
  rw [← hg1] at HR2 n1 ⊢
  clear hk2 hs2 hb1 hb2 HK1 hg1
  go_wp2_with (with_reducible refine wpList_loadAll (o := ⟨some 6, _, _, _, _, _⟩) rwState rfl (.tmp 1) rfl rfl HW.out HLw.out ?_)
  clear HW HLw
  go_wp2
  go_loopw [7] (fun vi wr => ∃ i : Nat, i ≤ 4 ∧ vi = .int .i64 i ∧ Kp (Blk wr w.heap.size 78 (cells32 (partW (wd (mixL l 16)) (wd l) 4 i))) ∧ Only w.heap.size w2 wr) (fun vi _ => 4 - (intOf vi).toNat)
  case atStart => exact ⟨0, by omega, rfl, HK12, Only.refl _ _⟩
  case round =>
    clear HK12
    obtain ⟨i, hi, rfl, HB, ho⟩ := hrel
    by_cases hlt : i < 4
    · have hco := (HB.out.cell? i).trans (partW_at (wd (mixL l 16)) (wd l) 4 i hlt)
      have hfo := HB.out.frozen i
      have HSet : Kp _ := ⟨partW_set (wd (mixL l 16)) (wd l) 4 i⟩
      obtain ⟨a, b, c, d, hx, hy⟩ := mix_words l i hlt
      have hidx := run_index_agg (P := Tryd.prog) (t := 78) Tryd.underlying78 plainU32 (cells32 (wordsL l)) .i64 i hlt _ (wordsL_at l i hlt) wr
      rw [hx] at hco hidx
      have HY : Kp _ := ⟨hy⟩
      have hi4 : (i : Int) < 4 := by omega
      have hxx : bits .xor .u32 ((w4 a b c d).toNat : Int) ((w4 b c d a).toNat : Int) = ((w4 (a ^^^ b) (b ^^^ c) (c ^^^ d) (d ^^^ a)).toNat : Int) := by rw [u32_xor', w4_xor]
      clear hx hy
      go_wp2_with fail
      refine (turn_8 a b c d _).mono ?_
      rintro e w' ⟨rfl, q8, rfl⟩
      clear hidx
      go_wp2_with fail
      refine (dblAll_w4 a b c d _).mono ?_
      rintro e w' ⟨rfl, rfl⟩
      generalize hD : w4 (xt (a ^^^ b)) (xt (b ^^^ c)) (xt (c ^^^ d)) (xt (d ^^^ a)) = D at *
      clear hxx hD
      go_wp2_with fail
      refine (turn_16 a b c d _).mono ?_
      rintro e w' ⟨rfl, q16, rfl⟩
      go_wp2_with fail
      refine (turn_24 a b c d _).mono ?_
      rintro e w' ⟨rfl, q24, rfl⟩
      have HB2 : Kp _ := ⟨HB.out.drewN (q8 + q16 + q24)⟩
      have ho2 := ho.drewN (q8 + q16 + q24)
      generalize w4 a b c d = W0 at *
      generalize w4 b c d a = W8 at *
      generalize w4 c d a b = W16 at *
      generalize w4 d a b c = W24 at *
      clear HB ho
      go_wp2
      refine ⟨⟨i + 1, by omega, by go_num, ⟨?_⟩, ho2.trans (Only.setCell (wr.drewN (q8 + q16 + q24)) ⟨w.heap.size, i, none⟩ _)⟩, by simp [intOf]; omega⟩
      rw [u32_xor', u32_xor', u32_xor', ← HY.out]
      have h3 := HB2.out.set i (.int .u32 ((wd (mixL l 16) i).toNat : Int))
      rw [HSet.out] at h3
      exact h3
    · obtain rfl : i = 4 := by omega
      have HD : Kp (Blk wr w.heap.size 78 (cells32 (wordsL (mixL l 16)))) := ⟨by
        have h := HB.out
        rw [partW_done] at h
        exact h⟩
      have HLen : Kp ((cells32 (wordsL (mixL l 16))).length = 4) := ⟨by rw [cells32_length, wordsL_length]⟩
      have HZ : Kp (zero4.length = 4) := ⟨rfl⟩
      have HRr : Kp _ := ⟨HR2.out.only ho (by omega)⟩
      generalize hL : wordsL (mixL l 16) = L at *
      have HL : Kp _ := ⟨hL⟩
      clear HB hL
      go_wp2_with (first
        | (with_reducible refine wpList_loadAll (o := ⟨some 28, _, _, _, _, _⟩) rwState rfl (.tmp 1) rfl rfl HD.out HLen.out ?_)
        | (with_reducible refine wpList_storeAll (o := ⟨none, _, _, _, _, _⟩) (vs := cells32 L) rwState rfl (.tmp 2) (.tmp 28) rfl rfl HRr.out HZ.out HLen.out (cells32_one _) rfl ?_))
      intro w5 hk5 ho5
      have HK5 : Kp _ := ⟨hk5⟩
      clear hk5
      go_wp2
      exact ret_arr rfl rwState rfl HK5.out HLen.out rfl ⟨by first | rfl | rw [HL.out], (hB2.trans (ho.below (by omega))).trans (ho5.below (by omega))⟩
end Go.Proofs.YtckmobpjdpjocaaDoor

namespace Go.Proofs.YtckmobpjdpjocaaDoor

def rcon : Nat → UInt8
  | 0 => 1
  | k + 1 => xt (rcon k)
def rl (x : UInt32) : UInt32 := w4 (by4 x 1) (by4 x 2) (by4 x 3) (by4 x 0)
def kg (bx : List UInt8) (m : Nat) (x : UInt32) : UInt32 := if m % 4 = 0 then subN bx (rl x) ^^^ w4 (rcon (m / 4)) 0 0 0 else x
def wl (bx key : List UInt8) : Nat → List UInt32
  | 0 => wordsL key
  | m + 1 => wl bx key m ++ [kg bx m ((wl bx key m).getD (m + 3) 0) ^^^ (wl bx key m).getD m 0]
/-- a word of a key, spread -/
def Wk (bx key : List UInt8) (m : Nat) : UInt32 := (wl bx key 40).getD m 0
section
variable (bx key : List UInt8)
theorem wl_length (m : Nat) : (wl bx key m).length = m + 4 := by
  induction m with
  | zero => exact wordsL_length key
  | succ m ih => simp [wl, ih]
theorem wl_next (m i : Nat) (h : i < m + 4) : (wl bx key (m + 1)).getD i 0 = (wl bx key m).getD i 0 := by
  simp only [wl, List.getD]
  rw [List.getElem?_append_left (by rw [wl_length]; exact h)]
theorem wl_stable (m d i : Nat) (h : i < m + 4) : (wl bx key (m + d)).getD i 0 = (wl bx key m).getD i 0 := by
  induction d with
  | zero => rfl
  | succ d ih => rw [← Nat.add_assoc, wl_next bx key _ i (by omega), ih]
theorem Wk_low (m : Nat) (h : m < 4) : Wk bx key m = wd key m := by
  have h1 := wl_stable bx key 0 40 m (by omega)
  rw [Nat.zero_add] at h1
  unfold Wk
  rw [h1]
  exact map_getD _ _ _ _ h
theorem Wk_step (m : Nat) (h : m < 40) : Wk bx key (m + 4) = kg bx m (Wk bx key (m + 3)) ^^^ Wk bx key m := by
  have e : ∀ n i, n ≤ 40 → i < n + 4 → Wk bx key i = (wl bx key n).getD i 0 := fun n i hn hi => by
    have h1 := wl_stable bx key n (40 - n) i hi
    rw [show n + (40 - n) = 40 by omega] at h1
    exact h1
  rw [e (m + 1) (m + 4) (by omega) (by omega), e m (m + 3) (by omega) (by omega), e m m (by omega) (by omega)]
  simp only [wl, List.getD]
  rw [List.getElem?_append_right (by rw [wl_length]; omega), wl_length]
  simp
/-- a round's key -/
def kch (r : Nat) : List UInt8 := (List.range 16).map fun p => by4 (Wk bx key (4 * r + p / 4)) (p % 4)
theorem kch_length (r : Nat) : (kch bx key r).length = 16 := by simp [kch]
theorem wd_kch (r j : Nat) (h : j < 4) : wd (kch bx key r) j = Wk bx key (4 * r + j) := by
  have e : ∀ p, p < 16 → (kch bx key r).getD p 0 = by4 (Wk bx key (4 * r + p / 4)) (p % 4) := fun p hp => map_getD _ _ _ _ hp
  unfold wd
  rw [e _ (by omega), e _ (by omega), e _ (by omega), e _ (by omega)]
  rw [show 4 * j / 4 = j by omega, show (4 * j + 1) / 4 = j by omega, show (4 * j + 2) / 4 = j by omega, show (4 * j + 3) / 4 = j by omega, show 4 * j % 4 = 0 by omega, show (4 * j + 1) % 4 = 1 by omega, show (4 * j + 2) % 4 = 2 by omega, show (4 * j + 3) % 4 = 3 by omega]
  exact (w4_of _).symm
theorem kch_words (r : Nat) (hr : r < 11) : ((cells32 ((List.range 44).map (Wk bx key))).drop (4 * r)).take 4 = cells32 (wordsL (kch bx key r)) := by
  refine List.ext_getElem (by simp [cells32, wordsL]; omega) fun i h1 h2 => ?_
  have hi : i < 4 := by simpa [cells32, wordsL] using h2
  have e1 := wordsL_at (kch bx key r) i hi
  rw [wd_kch bx key r i hi] at e1
  have e2 := rangeW_at (Wk bx key) 44 (4 * r + i) (by omega)
  rw [List.getElem?_eq_getElem h2] at e1
  have e3 := Option.some.inj e1
  rw [e3, List.getElem_take, List.getElem_drop]
  have hl : 4 * r + i < (cells32 ((List.range 44).map (Wk bx key))).length := by simp [cells32]; omega
  rw [List.getElem?_eq_getElem hl] at e2
  exact Option.some.inj e2
/-- a byte of a key, spread -/
def kby (q : Nat) : UInt8 := by4 (Wk bx key (q / 4)) (q % 4)
theorem kby_low (q : Nat) (h : q < 16) : kby bx key q = key.getD q 0 := by
  unfold kby
  rw [Wk_low bx key _ (by omega), by4_wd]
theorem by4_xor (x y : UInt32) (k : Nat) (hk : k < 4) : by4 (x ^^^ y) k = by4 x k ^^^ by4 y k := by
  conv => lhs; rw [w4_of x, w4_of y, w4_xor]
  have h := by4_w4 (by4 x 0 ^^^ by4 y 0) (by4 x 1 ^^^ by4 y 1) (by4 x 2 ^^^ by4 y 2) (by4 x 3 ^^^ by4 y 3)
  rcases (by omega : k = 0 ∨ k = 1 ∨ k = 2 ∨ k = 3) with rfl | rfl | rfl | rfl
  · exact h.1
  · exact h.2.1
  · exact h.2.2.1
  · exact h.2.2.2
theorem kby_plain (m k : Nat) (hm : m < 40) (hk : k < 4) (h0 : m % 4 ≠ 0) : kby bx key (16 + 4 * m + k) = kby bx key (4 * m + k) ^^^ kby bx key (16 + 4 * m - 4 + k) := by
  unfold kby
  rw [show (16 + 4 * m + k) / 4 = m + 4 by omega, show (16 + 4 * m + k) % 4 = k by omega, show (4 * m + k) / 4 = m by omega, show (4 * m + k) % 4 = k by omega, show (16 + 4 * m - 4 + k) / 4 = m + 3 by omega, show (16 + 4 * m - 4 + k) % 4 = k by omega, Wk_step bx key m hm, by4_xor _ _ _ hk]
  unfold kg
  rw [if_neg h0, UInt8.xor_comm]
theorem kby_round (m k : Nat) (hm : m < 40) (hk : k < 4) (h0 : m % 4 = 0) : kby bx key (16 + 4 * m + k) = kby bx key (4 * m + k) ^^^ (bx.getD (kby bx key (16 + 4 * m - 4 + (k + 1) % 4)).toNat 0 ^^^ (if k = 0 then rcon (m / 4) else 0)) := by
  unfold kby
  rw [show (16 + 4 * m + k) / 4 = m + 4 by omega, show (16 + 4 * m + k) % 4 = k by omega, show (4 * m + k) / 4 = m by omega, show (4 * m + k) % 4 = k by omega, show (16 + 4 * m - 4 + (k + 1) % 4) / 4 = m + 3 by omega, show (16 + 4 * m - 4 + (k + 1) % 4) % 4 = (k + 1) % 4 by omega, Wk_step bx key m hm, by4_xor _ _ _ hk]
  unfold kg
  rw [if_pos h0, by4_xor _ _ _ hk, UInt8.xor_comm]
  unfold rl
  rw [sub_w4]
  generalize Wk bx key (m + 3) = x
  have h := by4_w4 (bx.getD (by4 x 1).toNat 0) (bx.getD (by4 x 2).toNat 0) (bx.getD (by4 x 3).toNat 0) (bx.getD (by4 x 0).toNat 0)
  have h2 := by4_w4 (rcon (m / 4)) 0 0 0
  rcases (by omega : k = 0 ∨ k = 1 ∨ k = 2 ∨ k = 3) with rfl | rfl | rfl | rfl
  · rw [h.1, h2.1]; rfl
  · rw [h.2.1, h2.2.1]; rfl
  · rw [h.2.2.1, h2.2.2.1]; rfl
  · rw [h.2.2.2, h2.2.2.2]; rfl
/-- a key, spread -/
def keysL : List (List UInt8) := (List.range 11).map (kch bx key)
theorem keysL_at (r : Nat) (h : r < 11) : (keysL bx key).getD r [] = kch bx key r := map_getD _ _ _ _ h
theorem kch_kby (r : Nat) : kch bx key r = (List.range 16).map fun p => kby bx key (16 * r + p) := by
  unfold kch kby
  refine List.map_congr_left fun p hp => ?_
  have := List.mem_range.1 hp
  rw [show (16 * r + p) / 4 = 4 * r + p / 4 by omega, show (16 * r + p) % 4 = p % 4 by omega]
end
end Go.Proofs.YtckmobpjdpjocaaDoor
