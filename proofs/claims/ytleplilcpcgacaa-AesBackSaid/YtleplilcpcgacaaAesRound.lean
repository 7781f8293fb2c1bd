/- The contracts of package aes's functions on states. -/
import Derived.Test.YtleplilcpcgacaaAesSt
import Derived.Test.YtleplilcpcgacaaAesMk
namespace Go.Proofs.Ytleplilcpcgacaa
open Go.RowKit

def zero4 : List Value := List.replicate 4 (.int .u32 0)
theorem tyState : Ty Try.prog 61 zero4 := ⟨by kernel_rfl⟩
theorem rwState : Rw Try.prog 61 (.array 4 51) 4 := ⟨by kernel_rfl, rfl, by kernel_rfl⟩
theorem tyBytes : Ty Try.prog 29 zero16 := ⟨by kernel_rfl⟩
theorem rwBytes : Rw Try.prog 29 (.array 16 5) 16 := ⟨by kernel_rfl, rfl, by kernel_rfl⟩

theorem sub_val (p q r s : UInt8) : bits .or .u32 (bits .or .u32 (bits .or .u32 (IntKind.u32.wrap (IntKind.u32.wrap (p.toNat : Int) * 16777216)) (IntKind.u32.wrap (IntKind.u32.wrap (q.toNat : Int) * 65536))) (IntKind.u32.wrap (IntKind.u32.wrap (r.toNat : Int) * 256))) (IntKind.u32.wrap (s.toNat : Int)) = ((w4 p q r s).toNat : Int) := by
  have hp := p.toNat_lt; have hq := q.toNat_lt; have hr := r.toNat_lt; have hs := s.toNat_lt
  have e1 : IntKind.u32.wrap (IntKind.u32.wrap (p.toNat : Int) * 16777216) = ((w4 p 0 0 0).toNat : Int) := by rw [w4_nat, IntKind.wrap_u32, IntKind.wrap_u32]; simp; omega
  have e2 : IntKind.u32.wrap (IntKind.u32.wrap (q.toNat : Int) * 65536) = ((w4 0 q 0 0).toNat : Int) := by rw [w4_nat, IntKind.wrap_u32, IntKind.wrap_u32]; simp; omega
  have e3 : IntKind.u32.wrap (IntKind.u32.wrap (r.toNat : Int) * 256) = ((w4 0 0 r 0).toNat : Int) := by rw [w4_nat, IntKind.wrap_u32, IntKind.wrap_u32]; simp; omega
  have e4 : IntKind.u32.wrap (s.toNat : Int) = ((w4 0 0 0 s).toNat : Int) := by rw [w4_nat, IntKind.wrap_u32]; simp; omega
  rw [e1, e2, e3, e4, u32_or', u32_or', u32_or', w4_or, w4_or, w4_or]
  simp
theorem box_at {w : World} {g : Nat} {t : TypeId} {bx : List UInt8} (h : Blk w g t (cells8 bx)) (hl : bx.length = 256) (x : UInt8) : w.cell? ⟨g, x.toNat, none⟩ = some (.int .u8 ((bx.getD x.toNat 0).toNat : Int)) := by
  have hx : x.toNat < bx.length := by rw [hl]; exact x.toNat_lt
  rw [h.cell? x.toNat, cells8_at bx _ hx]
  simp [List.getD, List.getElem?_eq_getElem hx]
set_option maxRecDepth 100000 in
set_option maxHeartbeats 2000000 in
theorem sub_any (x : UInt32) (g : Nat) (t : TypeId) (bx : List UInt8) (w : World) (hb : Blk w g t (cells8 bx)) (hl : bx.length = 256) :
    Calls Try.prog 38 #[.int .u32 x.toNat, .pointer (some ⟨g, 0, none⟩)] w fun e w' => e = .returned (.int .u32 (subN bx x).toNat) ∧ w' = w.drew := by
  have HV : Kp _ := ⟨sub_val (bx.getD (by4 x 0).toNat 0) (bx.getD (by4 x 1).toNat 0) (bx.getD (by4 x 2).toNat 0) (bx.getD (by4 x 3).toNat 0)⟩
  have c0 := box_at hb hl (by4 x 0)
  have c1 := box_at hb hl (by4 x 1)
  have c2 := box_at hb hl (by4 x 2)
  have c3 := box_at hb hl (by4 x 3)
  have r0 : IntKind.u8.wrap ((x.toNat : Int) / 16777216) = ((by4 x 0).toNat : Int) := by rw [IntKind.wrap_u8]; exact row_val x 0 24 rfl
  have r1 : IntKind.u8.wrap ((x.toNat : Int) / 65536) = ((by4 x 1).toNat : Int) := by rw [IntKind.wrap_u8]; exact row_val x 1 16 rfl
  have r2 : IntKind.u8.wrap ((x.toNat : Int) / 256) = ((by4 x 2).toNat : Int) := by rw [IntKind.wrap_u8]; exact row_val x 2 8 rfl
  have r3 : IntKind.u8.wrap (x.toNat : Int) = ((by4 x 3).toNat : Int) := by rw [IntKind.wrap_u8]; have h := row_val x 3 0 rfl; simpa using h
  have HS : Kp (subN bx x = w4 (bx.getD (by4 x 0).toNat 0) (bx.getD (by4 x 1).toNat 0) (bx.getD (by4 x 2).toNat 0) (bx.getD (by4 x 3).toNat 0)) := ⟨rfl⟩
  generalize bx.getD (by4 x 0).toNat 0 = y0 at *
  generalize bx.getD (by4 x 1).toNat 0 = y1 at *
  generalize bx.getD (by4 x 2).toNat 0 = y2 at *
  generalize bx.getD (by4 x 3).toNat 0 = y3 at *
  have b0 := (by4 x 0).toNat_lt
  have b1 := (by4 x 1).toNat_lt
  have b2 := (by4 x 2).toNat_lt
  have b3 := (by4 x 3).toNat_lt
  generalize (by4 x 0).toNat = i0 at *
  generalize (by4 x 1).toNat = i1 at *
  generalize (by4 x 2).toNat = i2 at *
  generalize (by4 x 3).toNat = i3 at *
  have l0 : (i0 : Int) < 256 := by omega
  have l1 : (i1 : Int) < 256 := by omega
  have l2 : (i2 : Int) < 256 := by omega
  have l3 : (i3 : Int) < 256 := by omega
  clear hb hl b0 b1 b2 b3
  go_enter Try.func38, Try.ntmps38
  go_wp2_with fail
  go_still (by kernel_rfl)
  change Exit.then _ _ _ _ w.drew
  clear r0 r1 r2 r3 c0 c1 c2 c3 l0 l1 l2 l3
  go_wp2
  go_ret
  refine ⟨?_, rfl⟩
  show Ending.returned (.int .u32 _) = _
  rw [HV.out, HS.out]
end Go.Proofs.Ytleplilcpcgacaa
