/-
  No cell of these rows narrows 'for every input' (looked for: loops, veiled, ifaces, maps, wideKeys, modest, calm, conditions, laid).
  DERIVED. THE GIVEN ROWS OF THIS SEAT. 4 by the template 'for every input the law returns true; each argument reads behind the call as it read before'; 0 by the template 'total and deterministic' (their statements: YthpfiieaanioeaaTotals.lean).
  GIVEN WITH THE SEED: the statements are not yours to turn. If you find one false, say at which input.
  Laid BY PROGRAM, IN A SANDBOX (cutbox-rows.mjs): the forced cells as the released guide's own fill.sh prints them over the translation fe2d99105364d469… (all of the seat's roots in one cut). By AI agents, Wed Nov 11 2026. No macro, syntax, notation, axiom, sorry.
-/
import Derived.Test.YthpfiieaanioeaaChecked
import GoSem.Claim
import GoSem.ClaimJoined
import GoSem.ClaimMapViews
import Derived.JoinedTies
import Derived.KernelRfl
namespace Go.Proofs.Ythpfiieaanioeaa
/- THE CELL 'sum', in the pinned program and in every row, IS THE sha256 OF THE DUMP (.gsa) THAT YthpfiieaanioeaaProg.lean LOADS. Nothing in Lean hashes anything: it is a label: what it is worth is what the hold of that sum in a sandbox is worth. -/
noncomputable def Try.pinned : Pinned := { name := "ythpfiieaanioeaa", sum := "fe2d99105364d46912bcb29c61b0060242557ff2c87ce001f9ddeab876e26c87", checked := Try.checked }
namespace Rows
def none {H : Type} : Left H := { results := [], args := [] }

/-- 'sacristanlaw10.AuditHeaps': WHATEVER THE INPUT: true; the input reads as it did. -/
def auditHeapsSpec : ChangeSpec := { name := "auditHeaps", fn := fun _ => fun
  | [d1, d2, d3] => { results := [.lit (.bool true)], args := [d1, d2, d3] }
  | _ => none }
def auditHeapsRow : OpenClaim := { program := "ythpfiieaanioeaa", sum := "fe2d99105364d46912bcb29c61b0060242557ff2c87ce001f9ddeab876e26c87", func := "sacristan/sacristanlaw10.AuditHeaps", spec := "auditHeaps", inPlace := ["math/bits.Add64"], unfollowed := true, recurses := true, plainKeys := false, apart := false }
def AuditHeapsSaid : Prop := auditHeapsRow.holds Try.pinned (OpenSpec.ofChange auditHeapsSpec)

/-- ITS FALSE NEIGHBOUR: 'it returns false'. Refute it at one input. -/
def auditHeapsWrong : ChangeSpec := { name := "auditHeaps", fn := fun _ => fun
  | [d1, d2, d3] => { results := [.lit (.bool false)], args := [d1, d2, d3] }
  | _ => none }
def AuditHeapsWrongFalsely : Prop := auditHeapsRow.holds Try.pinned (OpenSpec.ofChange auditHeapsWrong)

/-- 'sacristanlaw10.AuditSame': WHATEVER THE INPUT: true; the input reads as it did. -/
def auditSameSpec : ChangeSpec := { name := "auditSame", fn := fun _ => fun
  | [d1, d2, d3, d4] => { results := [.lit (.bool true)], args := [d1, d2, d3, d4] }
  | _ => none }
def auditSameRow : OpenClaim := { program := "ythpfiieaanioeaa", sum := "fe2d99105364d46912bcb29c61b0060242557ff2c87ce001f9ddeab876e26c87", func := "sacristan/sacristanlaw10.AuditSame", spec := "auditSame", inPlace := ["math/bits.Add64"], unfollowed := true, recurses := true, plainKeys := false, apart := false }
def AuditSameSaid : Prop := auditSameRow.holds Try.pinned (OpenSpec.ofChange auditSameSpec)

/-- ITS FALSE NEIGHBOUR: 'it returns false'. Refute it at one input. -/
def auditSameWrong : ChangeSpec := { name := "auditSame", fn := fun _ => fun
  | [d1, d2, d3, d4] => { results := [.lit (.bool false)], args := [d1, d2, d3, d4] }
  | _ => none }
def AuditSameWrongFalsely : Prop := auditSameRow.holds Try.pinned (OpenSpec.ofChange auditSameWrong)

/-- 'sacristanlaw10.AuditMinus': WHATEVER THE INPUT: true; the input reads as it did. -/
def auditMinusSpec : ChangeSpec := { name := "auditMinus", fn := fun _ => fun
  | [d1, d2] => { results := [.lit (.bool true)], args := [d1, d2] }
  | _ => none }
def auditMinusRow : OpenClaim := { program := "ythpfiieaanioeaa", sum := "fe2d99105364d46912bcb29c61b0060242557ff2c87ce001f9ddeab876e26c87", func := "sacristan/sacristanlaw10.AuditMinus", spec := "auditMinus", unfollowed := true, recurses := true, plainKeys := false, apart := false }
def AuditMinusSaid : Prop := auditMinusRow.holds Try.pinned (OpenSpec.ofChange auditMinusSpec)

/-- ITS FALSE NEIGHBOUR: 'it returns false'. Refute it at one input. -/
def auditMinusWrong : ChangeSpec := { name := "auditMinus", fn := fun _ => fun
  | [d1, d2] => { results := [.lit (.bool false)], args := [d1, d2] }
  | _ => none }
def AuditMinusWrongFalsely : Prop := auditMinusRow.holds Try.pinned (OpenSpec.ofChange auditMinusWrong)

/-- 'sacristanlaw10.AuditBegins': WHATEVER THE INPUT: true; the input reads as it did. -/
def auditBeginsSpec : ChangeSpec := { name := "auditBegins", fn := fun _ => fun
  | [d1, d2] => { results := [.lit (.bool true)], args := [d1, d2] }
  | _ => none }
def auditBeginsRow : OpenClaim := { program := "ythpfiieaanioeaa", sum := "fe2d99105364d46912bcb29c61b0060242557ff2c87ce001f9ddeab876e26c87", func := "sacristan/sacristanlaw10.AuditBegins", spec := "auditBegins", unfollowed := true, recurses := true, plainKeys := false, apart := false }
def AuditBeginsSaid : Prop := auditBeginsRow.holds Try.pinned (OpenSpec.ofChange auditBeginsSpec)

/-- ITS FALSE NEIGHBOUR: 'it returns false'. Refute it at one input. -/
def auditBeginsWrong : ChangeSpec := { name := "auditBegins", fn := fun _ => fun
  | [d1, d2] => { results := [.lit (.bool false)], args := [d1, d2] }
  | _ => none }
def AuditBeginsWrongFalsely : Prop := auditBeginsRow.holds Try.pinned (OpenSpec.ofChange auditBeginsWrong)

/- THE SECOND FORM. 'bulk': how many values and letters a reading holds, each counted each time it is reached (what is shared counts as often as it is met; a slice's spare places count too). A statement '..UptoSaid' is the law's where the arguments, and the package variables that the reading takes, are together of bulk at most 1048576: NARROWER than '..Said'. Prove '..Said' where nothing that the law and all that it calls make is longer than what came in: it says more and counts as full. Else prove '..UptoSaid'. A law counts once. -/
mutual
def uptoBulk {H : Type} : DataW H → Nat
  | .lit (.string bytes) => bytes.length + 1
  | .lit _ => 1
  | .nil => 1
  | .ptr d => uptoBulk d + 1
  | .slice elems spare => uptoBulkAll elems + uptoBulkAll spare + 1
  | .agg parts => uptoBulkAll parts + 1
  | .iface _ d => uptoBulk d + 1
  | .map entries => uptoBulkEntries entries + 1
  | .held _ => 1
def uptoBulkAll {H : Type} : List (DataW H) → Nat
  | [] => 0
  | d :: r => uptoBulk d + uptoBulkAll r
def uptoBulkEntries {H : Type} : List (Lit × DataW H) → Nat
  | [] => 0
  | x :: r => uptoBulkEntry x + uptoBulkEntries r
def uptoBulkEntry {H : Type} : Lit × DataW H → Nat
  | (.string bytes, d) => bytes.length + uptoBulk d + 1
  | (_, d) => uptoBulk d + 1
 end
def uptoSmall : (H : Type) → List (DataW H) → Bool := fun _ ds => decide (uptoBulkAll ds ≤ 1048576)
def OpenSpec.upto (s : _root_.Go.ChangeSpec) : _root_.Go.OpenSpec := { _root_.Go.OpenSpec.ofChange s with cond := some uptoSmall }

/-- 'sacristanlaw10.AuditHeaps', WHERE WHAT IT READS IS OF BULK AT MOST 1048576: true; the input reads as it did. -/
def auditHeapsUptoRow : OpenClaim := { program := "ythpfiieaanioeaa", sum := "fe2d99105364d46912bcb29c61b0060242557ff2c87ce001f9ddeab876e26c87", func := "sacristan/sacristanlaw10.AuditHeaps", spec := "auditHeaps", inPlace := ["math/bits.Add64"], unfollowed := true, recurses := true, plainKeys := false, apart := false, narrowed := true }
def AuditHeapsUptoSaid : Prop := auditHeapsUptoRow.holds Try.pinned (OpenSpec.upto auditHeapsSpec)

/-- 'sacristanlaw10.AuditSame', WHERE WHAT IT READS IS OF BULK AT MOST 1048576: true; the input reads as it did. -/
def auditSameUptoRow : OpenClaim := { program := "ythpfiieaanioeaa", sum := "fe2d99105364d46912bcb29c61b0060242557ff2c87ce001f9ddeab876e26c87", func := "sacristan/sacristanlaw10.AuditSame", spec := "auditSame", inPlace := ["math/bits.Add64"], unfollowed := true, recurses := true, plainKeys := false, apart := false, narrowed := true }
def AuditSameUptoSaid : Prop := auditSameUptoRow.holds Try.pinned (OpenSpec.upto auditSameSpec)

/-- 'sacristanlaw10.AuditMinus', WHERE WHAT IT READS IS OF BULK AT MOST 1048576: true; the input reads as it did. -/
def auditMinusUptoRow : OpenClaim := { program := "ythpfiieaanioeaa", sum := "fe2d99105364d46912bcb29c61b0060242557ff2c87ce001f9ddeab876e26c87", func := "sacristan/sacristanlaw10.AuditMinus", spec := "auditMinus", unfollowed := true, recurses := true, plainKeys := false, apart := false, narrowed := true }
def AuditMinusUptoSaid : Prop := auditMinusUptoRow.holds Try.pinned (OpenSpec.upto auditMinusSpec)

/-- 'sacristanlaw10.AuditBegins', WHERE WHAT IT READS IS OF BULK AT MOST 1048576: true; the input reads as it did. -/
def auditBeginsUptoRow : OpenClaim := { program := "ythpfiieaanioeaa", sum := "fe2d99105364d46912bcb29c61b0060242557ff2c87ce001f9ddeab876e26c87", func := "sacristan/sacristanlaw10.AuditBegins", spec := "auditBegins", unfollowed := true, recurses := true, plainKeys := false, apart := false, narrowed := true }
def AuditBeginsUptoSaid : Prop := auditBeginsUptoRow.holds Try.pinned (OpenSpec.upto auditBeginsSpec)

end Rows
end Go.Proofs.Ythpfiieaanioeaa
