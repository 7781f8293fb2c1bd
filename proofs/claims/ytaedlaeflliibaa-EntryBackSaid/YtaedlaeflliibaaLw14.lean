/- What the laws of stage 14 share. -/
import Derived.Test.YtaedlaeflliibaaEnW
import Derived.Test.YtaedlaeflliibaaOpenE
namespace Go.Proofs.Ytaedlaeflliibaa
open Go.RowKit Go.Deep

theorem same_yes (A B : Option Addr) (n c m d : Nat) (l : List En) (w : World) (ha : Ens w w.heap.size A n c l) (hb : Ens w w.heap.size B m d l) :
    Calls Try.prog 18 #[.slice A n c, .slice B m d] w fun e w' => e = .returned (.bool true) ∧ Below w.heap.size w w' := by
  have h := sameen_any A B n c m d l l w w.heap.size w.heap.size ha hb
  rwa [show (l == l) = true from by simp] at h
theorem str_of (s : ByteArray) : ∃ nm : List UInt8, s = ⟨nm.toArray⟩ ∧ s.data.toList = nm := ⟨s.data.toList, by cases s; simp, rfl⟩
end Go.Proofs.Ytaedlaeflliibaa
