/-  -/
import Derived.Test.YtcehkafddlfleaaGreatDoorG01
namespace Go.Proofs.YtcehkafddlfleaaGreatDoor
open Go.RowKit
def Fr (L : Nat) (A : Option Addr) : Prop := ∀ ad, A = some ad → L ≤ ad.block
theorem Fr.low {L L' : Nat} {A : Option Addr} (h : Fr L A) (hL : L' ≤ L) : Fr L' A := fun ad e => Nat.le_trans hL (h ad e)
theorem Fr.nil (L : Nat) : Fr L none := fun _ h => by cases h
theorem Fr.at (L : Nat) {g o : Nat} (h : L ≤ g) : Fr L (some ⟨g, o, none⟩) := fun ad e => by obtain rfl := Option.some.inj e; exact h
theorem Fr.own {w : World} {base size n c : Nat} {e : TypeId} {A : Option Addr} {xs : List Value} (h : w.ownsRow base e size (.slice A n c) n xs) : Fr base A := fun ad hA => by
 rcases h.2 with ⟨e1, _⟩ | ⟨g, cap, cur, e1, hb, _⟩
 ·injection e1 with e2 _ _
  rw [hA] at e2; cases e2
 ·injection e1 with e2 _ _
  rw [hA] at e2
  obtain rfl := Option.some.inj e2
  exact hb
structure BsN (L : Nat) (w : World) (A : Option Addr) (n c : Nat) (l : List UInt8) : Prop where
 bs : Bs w w.heap.size A n c l
 fr : Fr L A
theorem BsN.of_own {w : World} {base : Nat} {e : TypeId} {v : Value} {n : Nat} {l : List UInt8} (h : w.ownsRow base e 1 v n (cells8 l)) : ∃ A c, v = .slice A n c ∧ BsN base w A n c l := by
 obtain ⟨A, c, rfl, hb⟩ := Bs.of_own h
 exact ⟨A, c, rfl, hb, Fr.own h⟩
theorem BsN.low {L L' : Nat} {w : World} {A : Option Addr} {n c : Nat} {l : List UInt8} (h : BsN L w A n c l) (hL : L' ≤ L) : BsN L' w A n c l := ⟨h.bs, h.fr.low hL⟩
end Go.Proofs.YtcehkafddlfleaaGreatDoor
