/-
  No cell of these rows narrows 'for every input' (looked for: loops, veiled, ifaces, maps, wideKeys, modest, calm, conditions, laid).
  DERIVED. THE GIVEN ROWS OF THIS SEAT. 7 by the template 'for every input the law returns true; each argument reads behind the call as it read before'; 0 by the template 'total and deterministic' (their statements: YtjllfaeamjadcaaTotals.lean).
  GIVEN WITH THE SEED: the statements are not yours to turn. If you find one false, say at which input.
  Laid BY PROGRAM, IN A SANDBOX (cutbox-rows.mjs): the forced cells as the released guide's own fill.sh prints them over the translation fb51e3c38c29b05e… (all of the seat's roots in one cut). By AI agents, Wed Nov 11 2026. No macro, syntax, notation, axiom, sorry.
-/
import Derived.Test.YtjllfaeamjadcaaChecked
import GoSem.Claim
import GoSem.ClaimJoined
import GoSem.ClaimMapViews
import Derived.JoinedTies
import Derived.KernelRfl
namespace Go.Proofs.Ytjllfaeamjadcaa
/- THE CELL 'sum', in the pinned program and in every row, IS THE sha256 OF THE DUMP (.gsa) THAT YtjllfaeamjadcaaProg.lean LOADS. Nothing in Lean hashes anything: it is a label: what it is worth is what the hold of that sum in a sandbox is worth. -/
noncomputable def Try.pinned : Pinned := { name := "ytjllfaeamjadcaa", sum := "fb51e3c38c29b05efc3d6d741c082b2988caabc679b851acb6ea33da92b046d1", checked := Try.checked }
namespace Rows
def none {H : Type} : Left H := { results := [], args := [] }

/-- 'sacristanlaw05.SumAdds': WHATEVER THE INPUT: true; the input reads as it did. -/
def sumAddsSpec : ChangeSpec := { name := "sumAdds", fn := fun _ => fun
  | [d1, d2] => { results := [.lit (.bool true)], args := [d1, d2] }
  | _ => none }
def sumAddsRow : OpenClaim := { program := "ytjllfaeamjadcaa", sum := "fb51e3c38c29b05efc3d6d741c082b2988caabc679b851acb6ea33da92b046d1", func := "sacristan/sacristanlaw05.SumAdds", spec := "sumAdds", inPlace := ["math/bits.Add64", "math/bits.Sub64"], apart := false }
def SumAddsSaid : Prop := sumAddsRow.holds Try.pinned (OpenSpec.ofChange sumAddsSpec)

/-- ITS FALSE NEIGHBOUR: 'it returns false'. Refute it at one input. -/
def sumAddsWrong : ChangeSpec := { name := "sumAdds", fn := fun _ => fun
  | [d1, d2] => { results := [.lit (.bool false)], args := [d1, d2] }
  | _ => none }
def SumAddsWrongFalsely : Prop := sumAddsRow.holds Try.pinned (OpenSpec.ofChange sumAddsWrong)

/-- 'sacristanlaw05.SumOfs': WHATEVER THE INPUT: true; the input reads as it did. -/
def sumOfsSpec : ChangeSpec := { name := "sumOfs", fn := fun _ => fun
  | [d1, d2, d3, d4] => { results := [.lit (.bool true)], args := [d1, d2, d3, d4] }
  | _ => none }
def sumOfsRow : OpenClaim := { program := "ytjllfaeamjadcaa", sum := "fb51e3c38c29b05efc3d6d741c082b2988caabc679b851acb6ea33da92b046d1", func := "sacristan/sacristanlaw05.SumOfs", spec := "sumOfs", inPlace := ["math/bits.Add64", "math/bits.Sub64"], unfollowed := true, recurses := true, apart := false }
def SumOfsSaid : Prop := sumOfsRow.holds Try.pinned (OpenSpec.ofChange sumOfsSpec)

/-- ITS FALSE NEIGHBOUR: 'it returns false'. Refute it at one input. -/
def sumOfsWrong : ChangeSpec := { name := "sumOfs", fn := fun _ => fun
  | [d1, d2, d3, d4] => { results := [.lit (.bool false)], args := [d1, d2, d3, d4] }
  | _ => none }
def SumOfsWrongFalsely : Prop := sumOfsRow.holds Try.pinned (OpenSpec.ofChange sumOfsWrong)

/-- 'sacristanlaw05.SumOrders': WHATEVER THE INPUT: true; the input reads as it did. -/
def sumOrdersSpec : ChangeSpec := { name := "sumOrders", fn := fun _ => fun
  | [d1, d2, d3] => { results := [.lit (.bool true)], args := [d1, d2, d3] }
  | _ => none }
def sumOrdersRow : OpenClaim := { program := "ytjllfaeamjadcaa", sum := "fb51e3c38c29b05efc3d6d741c082b2988caabc679b851acb6ea33da92b046d1", func := "sacristan/sacristanlaw05.SumOrders", spec := "sumOrders", inPlace := ["math/bits.Add64", "math/bits.Sub64"], unfollowed := true, recurses := true, apart := false }
def SumOrdersSaid : Prop := sumOrdersRow.holds Try.pinned (OpenSpec.ofChange sumOrdersSpec)

/-- ITS FALSE NEIGHBOUR: 'it returns false'. Refute it at one input. -/
def sumOrdersWrong : ChangeSpec := { name := "sumOrders", fn := fun _ => fun
  | [d1, d2, d3] => { results := [.lit (.bool false)], args := [d1, d2, d3] }
  | _ => none }
def SumOrdersWrongFalsely : Prop := sumOrdersRow.holds Try.pinned (OpenSpec.ofChange sumOrdersWrong)

/-- 'sacristanlaw05.SumBack': WHATEVER THE INPUT: true; the input reads as it did. -/
def sumBackSpec : ChangeSpec := { name := "sumBack", fn := fun _ => fun
  | [d1, d2, d3] => { results := [.lit (.bool true)], args := [d1, d2, d3] }
  | _ => none }
def sumBackRow : OpenClaim := { program := "ytjllfaeamjadcaa", sum := "fb51e3c38c29b05efc3d6d741c082b2988caabc679b851acb6ea33da92b046d1", func := "sacristan/sacristanlaw05.SumBack", spec := "sumBack", inPlace := ["math/bits.Add64", "math/bits.Sub64"], apart := false }
def SumBackSaid : Prop := sumBackRow.holds Try.pinned (OpenSpec.ofChange sumBackSpec)

/-- ITS FALSE NEIGHBOUR: 'it returns false'. Refute it at one input. -/
def sumBackWrong : ChangeSpec := { name := "sumBack", fn := fun _ => fun
  | [d1, d2, d3] => { results := [.lit (.bool false)], args := [d1, d2, d3] }
  | _ => none }
def SumBackWrongFalsely : Prop := sumBackRow.holds Try.pinned (OpenSpec.ofChange sumBackWrong)

/-- 'sacristanlaw05.SumItems': WHATEVER THE INPUT: true; the input reads as it did. -/
def sumItemsSpec : ChangeSpec := { name := "sumItems", fn := fun _ => fun
  | [d1, d2, d3] => { results := [.lit (.bool true)], args := [d1, d2, d3] }
  | _ => none }
def sumItemsRow : OpenClaim := { program := "ytjllfaeamjadcaa", sum := "fb51e3c38c29b05efc3d6d741c082b2988caabc679b851acb6ea33da92b046d1", func := "sacristan/sacristanlaw05.SumItems", spec := "sumItems", inPlace := ["math/bits.Add64", "math/bits.Sub64"], unfollowed := true, recurses := true, apart := false }
def SumItemsSaid : Prop := sumItemsRow.holds Try.pinned (OpenSpec.ofChange sumItemsSpec)

/-- ITS FALSE NEIGHBOUR: 'it returns false'. Refute it at one input. -/
def sumItemsWrong : ChangeSpec := { name := "sumItems", fn := fun _ => fun
  | [d1, d2, d3] => { results := [.lit (.bool false)], args := [d1, d2, d3] }
  | _ => none }
def SumItemsWrongFalsely : Prop := sumItemsRow.holds Try.pinned (OpenSpec.ofChange sumItemsWrong)

/-- 'sacristanlaw05.SumLess': WHATEVER THE INPUT: true; the input reads as it did. -/
def sumLessSpec : ChangeSpec := { name := "sumLess", fn := fun _ => fun
  | [d1, d2, d3] => { results := [.lit (.bool true)], args := [d1, d2, d3] }
  | _ => none }
def sumLessRow : OpenClaim := { program := "ytjllfaeamjadcaa", sum := "fb51e3c38c29b05efc3d6d741c082b2988caabc679b851acb6ea33da92b046d1", func := "sacristan/sacristanlaw05.SumLess", spec := "sumLess", inPlace := ["math/bits.Sub64", "math/bits.Add64"], apart := false }
def SumLessSaid : Prop := sumLessRow.holds Try.pinned (OpenSpec.ofChange sumLessSpec)

/-- ITS FALSE NEIGHBOUR: 'it returns false'. Refute it at one input. -/
def sumLessWrong : ChangeSpec := { name := "sumLess", fn := fun _ => fun
  | [d1, d2, d3] => { results := [.lit (.bool false)], args := [d1, d2, d3] }
  | _ => none }
def SumLessWrongFalsely : Prop := sumLessRow.holds Try.pinned (OpenSpec.ofChange sumLessWrong)

/-- 'sacristanlaw05.SumKeys': WHATEVER THE INPUT: true; the input reads as it did. -/
def sumKeysSpec : ChangeSpec := { name := "sumKeys", fn := fun _ => fun
  | [d1, d2, d3, d4] => { results := [.lit (.bool true)], args := [d1, d2, d3, d4] }
  | _ => none }
def sumKeysRow : OpenClaim := { program := "ytjllfaeamjadcaa", sum := "fb51e3c38c29b05efc3d6d741c082b2988caabc679b851acb6ea33da92b046d1", func := "sacristan/sacristanlaw05.SumKeys", spec := "sumKeys", inPlace := ["math/bits.Add64", "math/bits.Sub64"], unfollowed := true, recurses := true, apart := false }
def SumKeysSaid : Prop := sumKeysRow.holds Try.pinned (OpenSpec.ofChange sumKeysSpec)

/-- ITS FALSE NEIGHBOUR: 'it returns false'. Refute it at one input. -/
def sumKeysWrong : ChangeSpec := { name := "sumKeys", fn := fun _ => fun
  | [d1, d2, d3, d4] => { results := [.lit (.bool false)], args := [d1, d2, d3, d4] }
  | _ => none }
def SumKeysWrongFalsely : Prop := sumKeysRow.holds Try.pinned (OpenSpec.ofChange sumKeysWrong)

/- THE SECOND FORM. 'bulk': how many values and letters a reading holds, each counted each time it is reached (what is shared counts as often as it is met; a slice's spare places count too). A statement '..UptoSaid' is the law's where the arguments, and the package variables that the reading takes, are together of bulk at most 1048576: NARROWER than '..Said'. Prove '..Said' where nothing that the law and all that it calls make is longer than what came in: it says more and counts as full. Else prove '..UptoSaid'. A law counts once. -/
mutual
def uptoBulk {H : Type} : DataW H → Nat
  | .lit (.string bytes) => bytes.length + 1
  | .lit _ => 1
  | .nil => 1
  | .ptr d => uptoBulk d + 1
  | .slice elems spare => uptoBulkAll elems + uptoBulkAll spare + 1
  | .agg parts => uptoBulkAll parts + 1
  | .iface _ d => uptoBulk d + 1
  | .map entries => uptoBulkEntries entries + 1
  | .held _ => 1
def uptoBulkAll {H : Type} : List (DataW H) → Nat
  | [] => 0
  | d :: r => uptoBulk d + uptoBulkAll r
def uptoBulkEntries {H : Type} : List (Lit × DataW H) → Nat
  | [] => 0
  | x :: r => uptoBulkEntry x + uptoBulkEntries r
def uptoBulkEntry {H : Type} : Lit × DataW H → Nat
  | (.string bytes, d) => bytes.length + uptoBulk d + 1
  | (_, d) => uptoBulk d + 1
 end
def uptoSmall : (H : Type) → List (DataW H) → Bool := fun _ ds => decide (uptoBulkAll ds ≤ 1048576)
def OpenSpec.upto (s : _root_.Go.ChangeSpec) : _root_.Go.OpenSpec := { _root_.Go.OpenSpec.ofChange s with cond := some uptoSmall }

/-- 'sacristanlaw05.SumAdds', WHERE WHAT IT READS IS OF BULK AT MOST 1048576: true; the input reads as it did. -/
def sumAddsUptoRow : OpenClaim := { program := "ytjllfaeamjadcaa", sum := "fb51e3c38c29b05efc3d6d741c082b2988caabc679b851acb6ea33da92b046d1", func := "sacristan/sacristanlaw05.SumAdds", spec := "sumAdds", inPlace := ["math/bits.Add64", "math/bits.Sub64"], apart := false, narrowed := true }
def SumAddsUptoSaid : Prop := sumAddsUptoRow.holds Try.pinned (OpenSpec.upto sumAddsSpec)

/-- 'sacristanlaw05.SumOfs', WHERE WHAT IT READS IS OF BULK AT MOST 1048576: true; the input reads as it did. -/
def sumOfsUptoRow : OpenClaim := { program := "ytjllfaeamjadcaa", sum := "fb51e3c38c29b05efc3d6d741c082b2988caabc679b851acb6ea33da92b046d1", func := "sacristan/sacristanlaw05.SumOfs", spec := "sumOfs", inPlace := ["math/bits.Add64", "math/bits.Sub64"], unfollowed := true, recurses := true, apart := false, narrowed := true }
def SumOfsUptoSaid : Prop := sumOfsUptoRow.holds Try.pinned (OpenSpec.upto sumOfsSpec)

/-- 'sacristanlaw05.SumOrders', WHERE WHAT IT READS IS OF BULK AT MOST 1048576: true; the input reads as it did. -/
def sumOrdersUptoRow : OpenClaim := { program := "ytjllfaeamjadcaa", sum := "fb51e3c38c29b05efc3d6d741c082b2988caabc679b851acb6ea33da92b046d1", func := "sacristan/sacristanlaw05.SumOrders", spec := "sumOrders", inPlace := ["math/bits.Add64", "math/bits.Sub64"], unfollowed := true, recurses := true, apart := false, narrowed := true }
def SumOrdersUptoSaid : Prop := sumOrdersUptoRow.holds Try.pinned (OpenSpec.upto sumOrdersSpec)

/-- 'sacristanlaw05.SumBack', WHERE WHAT IT READS IS OF BULK AT MOST 1048576: true; the input reads as it did. -/
def sumBackUptoRow : OpenClaim := { program := "ytjllfaeamjadcaa", sum := "fb51e3c38c29b05efc3d6d741c082b2988caabc679b851acb6ea33da92b046d1", func := "sacristan/sacristanlaw05.SumBack", spec := "sumBack", inPlace := ["math/bits.Add64", "math/bits.Sub64"], apart := false, narrowed := true }
def SumBackUptoSaid : Prop := sumBackUptoRow.holds Try.pinned (OpenSpec.upto sumBackSpec)

/-- 'sacristanlaw05.SumItems', WHERE WHAT IT READS IS OF BULK AT MOST 1048576: true; the input reads as it did. -/
def sumItemsUptoRow : OpenClaim := { program := "ytjllfaeamjadcaa", sum := "fb51e3c38c29b05efc3d6d741c082b2988caabc679b851acb6ea33da92b046d1", func := "sacristan/sacristanlaw05.SumItems", spec := "sumItems", inPlace := ["math/bits.Add64", "math/bits.Sub64"], unfollowed := true, recurses := true, apart := false, narrowed := true }
def SumItemsUptoSaid : Prop := sumItemsUptoRow.holds Try.pinned (OpenSpec.upto sumItemsSpec)

/-- 'sacristanlaw05.SumLess', WHERE WHAT IT READS IS OF BULK AT MOST 1048576: true; the input reads as it did. -/
def sumLessUptoRow : OpenClaim := { program := "ytjllfaeamjadcaa", sum := "fb51e3c38c29b05efc3d6d741c082b2988caabc679b851acb6ea33da92b046d1", func := "sacristan/sacristanlaw05.SumLess", spec := "sumLess", inPlace := ["math/bits.Sub64", "math/bits.Add64"], apart := false, narrowed := true }
def SumLessUptoSaid : Prop := sumLessUptoRow.holds Try.pinned (OpenSpec.upto sumLessSpec)

/-- 'sacristanlaw05.SumKeys', WHERE WHAT IT READS IS OF BULK AT MOST 1048576: true; the input reads as it did. -/
def sumKeysUptoRow : OpenClaim := { program := "ytjllfaeamjadcaa", sum := "fb51e3c38c29b05efc3d6d741c082b2988caabc679b851acb6ea33da92b046d1", func := "sacristan/sacristanlaw05.SumKeys", spec := "sumKeys", inPlace := ["math/bits.Add64", "math/bits.Sub64"], unfollowed := true, recurses := true, apart := false, narrowed := true }
def SumKeysUptoSaid : Prop := sumKeysUptoRow.holds Try.pinned (OpenSpec.upto sumKeysSpec)

end Rows
end Go.Proofs.Ytjllfaeamjadcaa
