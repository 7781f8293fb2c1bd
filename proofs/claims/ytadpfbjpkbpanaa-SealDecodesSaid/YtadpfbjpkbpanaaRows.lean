/-
  No cell of these rows narrows 'for every input' (looked for: loops, veiled, ifaces, maps, wideKeys, modest, calm, conditions, laid).
  DERIVED. THE GIVEN ROWS OF THIS SEAT. 7 by the template 'for every input the law returns true; each argument reads behind the call as it read before'; 0 by the template 'total and deterministic' (their statements: YtadpfbjpkbpanaaTotals.lean).
  GIVEN WITH THE SEED: the statements are not yours to turn. If you find one false, say at which input.
  Laid BY PROGRAM, IN A SANDBOX (cutbox-rows.mjs): the forced cells as the released guide's own fill.sh prints them over the translation b69c36e5acb11af2… (all of the seat's roots in one cut). By AI agents, Wed Nov 11 2026. No macro, syntax, notation, axiom, sorry.
-/
import Derived.Test.YtadpfbjpkbpanaaChecked
import GoSem.Claim
import GoSem.ClaimJoined
import GoSem.ClaimMapViews
import Derived.JoinedTies
import Derived.KernelRfl
namespace Go.Proofs.Ytadpfbjpkbpanaa
/- THE CELL 'sum', in the pinned program and in every row, IS THE sha256 OF THE DUMP (.gsa) THAT YtadpfbjpkbpanaaProg.lean LOADS. Nothing in Lean hashes anything: it is a label: what it is worth is what the hold of that sum in a sandbox is worth. -/
noncomputable def Try.pinned : Pinned := { name := "ytadpfbjpkbpanaa", sum := "b69c36e5acb11af29fac037b43ba5b11c2ba1b4f70fccb4a34bb0b341a113a48", checked := Try.checked }
namespace Rows
def none {H : Type} : Left H := { results := [], args := [] }

/-- 'sacristanlaw08.SealEncodes': WHATEVER THE INPUT: true; the input reads as it did. -/
def sealEncodesSpec : ChangeSpec := { name := "sealEncodes", fn := fun _ => fun
  | [d1, d2, d3, d4] => { results := [.lit (.bool true)], args := [d1, d2, d3, d4] }
  | _ => none }
def sealEncodesRow : OpenClaim := { program := "ytadpfbjpkbpanaa", sum := "b69c36e5acb11af29fac037b43ba5b11c2ba1b4f70fccb4a34bb0b341a113a48", func := "sacristan/sacristanlaw08.SealEncodes", spec := "sealEncodes", unfollowed := true, recurses := true, apart := false }
def SealEncodesSaid : Prop := sealEncodesRow.holds Try.pinned (OpenSpec.ofChange sealEncodesSpec)

/-- ITS FALSE NEIGHBOUR: 'it returns false'. Refute it at one input. -/
def sealEncodesWrong : ChangeSpec := { name := "sealEncodes", fn := fun _ => fun
  | [d1, d2, d3, d4] => { results := [.lit (.bool false)], args := [d1, d2, d3, d4] }
  | _ => none }
def SealEncodesWrongFalsely : Prop := sealEncodesRow.holds Try.pinned (OpenSpec.ofChange sealEncodesWrong)

/-- 'sacristanlaw08.SealDecodes': WHATEVER THE INPUT: true; the input reads as it did. -/
def sealDecodesSpec : ChangeSpec := { name := "sealDecodes", fn := fun _ => fun
  | [d1, d2, d3, d4] => { results := [.lit (.bool true)], args := [d1, d2, d3, d4] }
  | _ => none }
def sealDecodesRow : OpenClaim := { program := "ytadpfbjpkbpanaa", sum := "b69c36e5acb11af29fac037b43ba5b11c2ba1b4f70fccb4a34bb0b341a113a48", func := "sacristan/sacristanlaw08.SealDecodes", spec := "sealDecodes", unfollowed := true, recurses := true, apart := false }
def SealDecodesSaid : Prop := sealDecodesRow.holds Try.pinned (OpenSpec.ofChange sealDecodesSpec)

/-- ITS FALSE NEIGHBOUR: 'it returns false'. Refute it at one input. -/
def sealDecodesWrong : ChangeSpec := { name := "sealDecodes", fn := fun _ => fun
  | [d1, d2, d3, d4] => { results := [.lit (.bool false)], args := [d1, d2, d3, d4] }
  | _ => none }
def SealDecodesWrongFalsely : Prop := sealDecodesRow.holds Try.pinned (OpenSpec.ofChange sealDecodesWrong)

/-- 'sacristanlaw08.SealBack': WHATEVER THE INPUT: true; the input reads as it did. -/
def sealBackSpec : ChangeSpec := { name := "sealBack", fn := fun _ => fun
  | [d1, d2, d3, d4, d5] => { results := [.lit (.bool true)], args := [d1, d2, d3, d4, d5] }
  | _ => none }
def sealBackRow : OpenClaim := { program := "ytadpfbjpkbpanaa", sum := "b69c36e5acb11af29fac037b43ba5b11c2ba1b4f70fccb4a34bb0b341a113a48", func := "sacristan/sacristanlaw08.SealBack", spec := "sealBack", unfollowed := true, recurses := true, apart := false }
def SealBackSaid : Prop := sealBackRow.holds Try.pinned (OpenSpec.ofChange sealBackSpec)

/-- ITS FALSE NEIGHBOUR: 'it returns false'. Refute it at one input. -/
def sealBackWrong : ChangeSpec := { name := "sealBack", fn := fun _ => fun
  | [d1, d2, d3, d4, d5] => { results := [.lit (.bool false)], args := [d1, d2, d3, d4, d5] }
  | _ => none }
def SealBackWrongFalsely : Prop := sealBackRow.holds Try.pinned (OpenSpec.ofChange sealBackWrong)

/-- 'sacristanlaw08.SealChooses': WHATEVER THE INPUT: true; the input reads as it did. -/
def sealChoosesSpec : ChangeSpec := { name := "sealChooses", fn := fun _ => fun
  | [d1, d2, d3, d4, d5] => { results := [.lit (.bool true)], args := [d1, d2, d3, d4, d5] }
  | _ => none }
def sealChoosesRow : OpenClaim := { program := "ytadpfbjpkbpanaa", sum := "b69c36e5acb11af29fac037b43ba5b11c2ba1b4f70fccb4a34bb0b341a113a48", func := "sacristan/sacristanlaw08.SealChooses", spec := "sealChooses", unfollowed := true, recurses := true, apart := false }
def SealChoosesSaid : Prop := sealChoosesRow.holds Try.pinned (OpenSpec.ofChange sealChoosesSpec)

/-- ITS FALSE NEIGHBOUR: 'it returns false'. Refute it at one input. -/
def sealChoosesWrong : ChangeSpec := { name := "sealChooses", fn := fun _ => fun
  | [d1, d2, d3, d4, d5] => { results := [.lit (.bool false)], args := [d1, d2, d3, d4, d5] }
  | _ => none }
def SealChoosesWrongFalsely : Prop := sealChoosesRow.holds Try.pinned (OpenSpec.ofChange sealChoosesWrong)

/-- 'sacristanlaw08.SealFlips': WHATEVER THE INPUT: true; the input reads as it did. -/
def sealFlipsSpec : ChangeSpec := { name := "sealFlips", fn := fun _ => fun
  | [d1, d2, d3] => { results := [.lit (.bool true)], args := [d1, d2, d3] }
  | _ => none }
def sealFlipsRow : OpenClaim := { program := "ytadpfbjpkbpanaa", sum := "b69c36e5acb11af29fac037b43ba5b11c2ba1b4f70fccb4a34bb0b341a113a48", func := "sacristan/sacristanlaw08.SealFlips", spec := "sealFlips", unfollowed := true, recurses := true, apart := false }
def SealFlipsSaid : Prop := sealFlipsRow.holds Try.pinned (OpenSpec.ofChange sealFlipsSpec)

/-- ITS FALSE NEIGHBOUR: 'it returns false'. Refute it at one input. -/
def sealFlipsWrong : ChangeSpec := { name := "sealFlips", fn := fun _ => fun
  | [d1, d2, d3] => { results := [.lit (.bool false)], args := [d1, d2, d3] }
  | _ => none }
def SealFlipsWrongFalsely : Prop := sealFlipsRow.holds Try.pinned (OpenSpec.ofChange sealFlipsWrong)

/-- 'sacristanlaw08.SealLong': WHATEVER THE INPUT: true; the input reads as it did. -/
def sealLongSpec : ChangeSpec := { name := "sealLong", fn := fun _ => fun
  | [d1, d2, d3] => { results := [.lit (.bool true)], args := [d1, d2, d3] }
  | _ => none }
def sealLongRow : OpenClaim := { program := "ytadpfbjpkbpanaa", sum := "b69c36e5acb11af29fac037b43ba5b11c2ba1b4f70fccb4a34bb0b341a113a48", func := "sacristan/sacristanlaw08.SealLong", spec := "sealLong", unfollowed := true, recurses := true, apart := false }
def SealLongSaid : Prop := sealLongRow.holds Try.pinned (OpenSpec.ofChange sealLongSpec)

/-- ITS FALSE NEIGHBOUR: 'it returns false'. Refute it at one input. -/
def sealLongWrong : ChangeSpec := { name := "sealLong", fn := fun _ => fun
  | [d1, d2, d3] => { results := [.lit (.bool false)], args := [d1, d2, d3] }
  | _ => none }
def SealLongWrongFalsely : Prop := sealLongRow.holds Try.pinned (OpenSpec.ofChange sealLongWrong)

/-- 'sacristanlaw08.SealOrder': WHATEVER THE INPUT: true; the input reads as it did. -/
def sealOrderSpec : ChangeSpec := { name := "sealOrder", fn := fun _ => fun
  | [d1, d2, d3, d4, d5] => { results := [.lit (.bool true)], args := [d1, d2, d3, d4, d5] }
  | _ => none }
def sealOrderRow : OpenClaim := { program := "ytadpfbjpkbpanaa", sum := "b69c36e5acb11af29fac037b43ba5b11c2ba1b4f70fccb4a34bb0b341a113a48", func := "sacristan/sacristanlaw08.SealOrder", spec := "sealOrder", unfollowed := true, recurses := true, apart := false }
def SealOrderSaid : Prop := sealOrderRow.holds Try.pinned (OpenSpec.ofChange sealOrderSpec)

/-- ITS FALSE NEIGHBOUR: 'it returns false'. Refute it at one input. -/
def sealOrderWrong : ChangeSpec := { name := "sealOrder", fn := fun _ => fun
  | [d1, d2, d3, d4, d5] => { results := [.lit (.bool false)], args := [d1, d2, d3, d4, d5] }
  | _ => none }
def SealOrderWrongFalsely : Prop := sealOrderRow.holds Try.pinned (OpenSpec.ofChange sealOrderWrong)

/- THE SECOND FORM. 'bulk': how many values and letters a reading holds, each counted each time it is reached (what is shared counts as often as it is met; a slice's spare places count too). A statement '..UptoSaid' is the law's where the arguments, and the package variables that the reading takes, are together of bulk at most 1048576: NARROWER than '..Said'. Prove '..Said' where nothing that the law and all that it calls make is longer than what came in: it says more and counts as full. Else prove '..UptoSaid'. A law counts once. -/
mutual
def uptoBulk {H : Type} : DataW H → Nat
  | .lit (.string bytes) => bytes.length + 1
  | .lit _ => 1
  | .nil => 1
  | .ptr d => uptoBulk d + 1
  | .slice elems spare => uptoBulkAll elems + uptoBulkAll spare + 1
  | .agg parts => uptoBulkAll parts + 1
  | .iface _ d => uptoBulk d + 1
  | .map entries => uptoBulkEntries entries + 1
  | .held _ => 1
def uptoBulkAll {H : Type} : List (DataW H) → Nat
  | [] => 0
  | d :: r => uptoBulk d + uptoBulkAll r
def uptoBulkEntries {H : Type} : List (Lit × DataW H) → Nat
  | [] => 0
  | x :: r => uptoBulkEntry x + uptoBulkEntries r
def uptoBulkEntry {H : Type} : Lit × DataW H → Nat
  | (.string bytes, d) => bytes.length + uptoBulk d + 1
  | (_, d) => uptoBulk d + 1
 end
def uptoSmall : (H : Type) → List (DataW H) → Bool := fun _ ds => decide (uptoBulkAll ds ≤ 1048576)
def OpenSpec.upto (s : _root_.Go.ChangeSpec) : _root_.Go.OpenSpec := { _root_.Go.OpenSpec.ofChange s with cond := some uptoSmall }

/-- 'sacristanlaw08.SealEncodes', WHERE WHAT IT READS IS OF BULK AT MOST 1048576: true; the input reads as it did. -/
def sealEncodesUptoRow : OpenClaim := { program := "ytadpfbjpkbpanaa", sum := "b69c36e5acb11af29fac037b43ba5b11c2ba1b4f70fccb4a34bb0b341a113a48", func := "sacristan/sacristanlaw08.SealEncodes", spec := "sealEncodes", unfollowed := true, recurses := true, apart := false, narrowed := true }
def SealEncodesUptoSaid : Prop := sealEncodesUptoRow.holds Try.pinned (OpenSpec.upto sealEncodesSpec)

/-- 'sacristanlaw08.SealDecodes', WHERE WHAT IT READS IS OF BULK AT MOST 1048576: true; the input reads as it did. -/
def sealDecodesUptoRow : OpenClaim := { program := "ytadpfbjpkbpanaa", sum := "b69c36e5acb11af29fac037b43ba5b11c2ba1b4f70fccb4a34bb0b341a113a48", func := "sacristan/sacristanlaw08.SealDecodes", spec := "sealDecodes", unfollowed := true, recurses := true, apart := false, narrowed := true }
def SealDecodesUptoSaid : Prop := sealDecodesUptoRow.holds Try.pinned (OpenSpec.upto sealDecodesSpec)

/-- 'sacristanlaw08.SealBack', WHERE WHAT IT READS IS OF BULK AT MOST 1048576: true; the input reads as it did. -/
def sealBackUptoRow : OpenClaim := { program := "ytadpfbjpkbpanaa", sum := "b69c36e5acb11af29fac037b43ba5b11c2ba1b4f70fccb4a34bb0b341a113a48", func := "sacristan/sacristanlaw08.SealBack", spec := "sealBack", unfollowed := true, recurses := true, apart := false, narrowed := true }
def SealBackUptoSaid : Prop := sealBackUptoRow.holds Try.pinned (OpenSpec.upto sealBackSpec)

/-- 'sacristanlaw08.SealChooses', WHERE WHAT IT READS IS OF BULK AT MOST 1048576: true; the input reads as it did. -/
def sealChoosesUptoRow : OpenClaim := { program := "ytadpfbjpkbpanaa", sum := "b69c36e5acb11af29fac037b43ba5b11c2ba1b4f70fccb4a34bb0b341a113a48", func := "sacristan/sacristanlaw08.SealChooses", spec := "sealChooses", unfollowed := true, recurses := true, apart := false, narrowed := true }
def SealChoosesUptoSaid : Prop := sealChoosesUptoRow.holds Try.pinned (OpenSpec.upto sealChoosesSpec)

/-- 'sacristanlaw08.SealFlips', WHERE WHAT IT READS IS OF BULK AT MOST 1048576: true; the input reads as it did. -/
def sealFlipsUptoRow : OpenClaim := { program := "ytadpfbjpkbpanaa", sum := "b69c36e5acb11af29fac037b43ba5b11c2ba1b4f70fccb4a34bb0b341a113a48", func := "sacristan/sacristanlaw08.SealFlips", spec := "sealFlips", unfollowed := true, recurses := true, apart := false, narrowed := true }
def SealFlipsUptoSaid : Prop := sealFlipsUptoRow.holds Try.pinned (OpenSpec.upto sealFlipsSpec)

/-- 'sacristanlaw08.SealLong', WHERE WHAT IT READS IS OF BULK AT MOST 1048576: true; the input reads as it did. -/
def sealLongUptoRow : OpenClaim := { program := "ytadpfbjpkbpanaa", sum := "b69c36e5acb11af29fac037b43ba5b11c2ba1b4f70fccb4a34bb0b341a113a48", func := "sacristan/sacristanlaw08.SealLong", spec := "sealLong", unfollowed := true, recurses := true, apart := false, narrowed := true }
def SealLongUptoSaid : Prop := sealLongUptoRow.holds Try.pinned (OpenSpec.upto sealLongSpec)

/-- 'sacristanlaw08.SealOrder', WHERE WHAT IT READS IS OF BULK AT MOST 1048576: true; the input reads as it did. -/
def sealOrderUptoRow : OpenClaim := { program := "ytadpfbjpkbpanaa", sum := "b69c36e5acb11af29fac037b43ba5b11c2ba1b4f70fccb4a34bb0b341a113a48", func := "sacristan/sacristanlaw08.SealOrder", spec := "sealOrder", unfollowed := true, recurses := true, apart := false, narrowed := true }
def SealOrderUptoSaid : Prop := sealOrderUptoRow.holds Try.pinned (OpenSpec.upto sealOrderSpec)

end Rows
end Go.Proofs.Ytadpfbjpkbpanaa
