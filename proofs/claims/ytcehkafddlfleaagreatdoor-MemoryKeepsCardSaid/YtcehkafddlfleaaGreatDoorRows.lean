/-
  NARROWER THAN 'FOR EVERY INPUT', by the rows' own cells (each row's printed sentence says how): MemoryKeeps: laid · MemoryAudits: laid · MemoryNonces: laid · MemoryLimits: laid · MemoryKeys: laid · CacheKeeps: laid · CacheNewest: laid · CacheRooms: laid · CacheOdd: laid.
  DERIVED. THE GIVEN ROWS OF THIS SEAT. 9 by the template 'for every input the law returns true; each argument reads behind the call as it read before'; 0 by the template 'total and deterministic' (their statements: YtcehkafddlfleaaGreatDoorTotals.lean).
  GIVEN WITH THE SEED: the statements are not yours to turn. If you find one false, say at which input.
  Laid BY PROGRAM, IN A SANDBOX (cutbox-rows.mjs): the forced cells as the released guide's own fill.sh prints them over the translation c813ec5f8228a509… (all of the seat's roots in one cut). By AI agents, Wed Nov 11 2026. No macro, syntax, notation, axiom, sorry.
-/
import Derived.Test.YtcehkafddlfleaaGreatDoorChecked
import GoSem.Claim
import GoSem.ClaimJoined
import GoSem.ClaimMapViews
import Derived.JoinedTies
import Derived.KernelRfl
namespace Go.Proofs.YtcehkafddlfleaaGreatDoor
/- THE CELL 'sum', in the pinned program and in every row, IS THE sha256 OF THE DUMP (.gsa) THAT YtcehkafddlfleaaGreatDoorProg.lean LOADS. Nothing in Lean hashes anything: it is a label: what it is worth is what the hold of that sum in a sandbox is worth. -/
noncomputable def Tryz.pinned : Pinned := { name := "ytcehkafddlfleaagreatdoor", sum := "c813ec5f8228a50920e362dc54e5781569578515d4bbee85761b4f36c1551966", checked := Tryz.checked }
namespace Rows
def none {H : Type} : Left H := { results := [], args := [] }

/- WHAT THE LISTED PACKAGE-LEVEL VARIABLES READ AS WHEN THE CALL BEGINS. Each datum BY PROGRAM (the guide's laid-datum.mjs) off the statement by which the dump's own 'gosem.cut.vars' lays the variable. In a bare row this is a premise. The card (YtcehkafddlfleaaGreatDoorCards.lean) ties it to the program's text. -/
def laid_errors_errorType {H : Type} : DataW H := .iface "internal/reflectlite.rtype" (.agg [.ptr (.lit (.string [101, 114, 114, 111, 114]))])

/-- 'sacristanlaw09.MemoryKeeps': WHATEVER THE INPUT: true; the input reads as it did. -/
def memoryKeepsSpec : ChangeSpec := { name := "memoryKeeps", fn := fun _ => fun
  | [d1, d2] => { results := [.lit (.bool true)], args := [d1, d2] }
  | _ => none }
def memoryKeepsRow : OpenClaim := { program := "ytcehkafddlfleaagreatdoor", sum := "c813ec5f8228a50920e362dc54e5781569578515d4bbee85761b4f36c1551966", func := "sacristan/sacristanlaw09.MemoryKeeps", spec := "memoryKeeps", inPlace := ["internal/reflectlite.ValueOf", "(internal/reflectlite.Value).Type", "(internal/reflectlite.Value).IsNil", "internal/reflectlite.TypeOf", "(internal/reflectlite.Value).Elem", "(internal/reflectlite.Value).Set", "math/bits.Add64", "sync/atomic.AddInt64"], unfollowed := true, recurses := true, named := ["errors.errorType"], plainKeys := false, apart := false, laid := [("errors.errorType", laid_errors_errorType)] }
def MemoryKeepsSaid : Prop := memoryKeepsRow.holds Tryz.pinned (OpenSpec.ofChange memoryKeepsSpec)

/-- ITS FALSE NEIGHBOUR: 'it returns false'. Refute it at one input. -/
def memoryKeepsWrong : ChangeSpec := { name := "memoryKeeps", fn := fun _ => fun
  | [d1, d2] => { results := [.lit (.bool false)], args := [d1, d2] }
  | _ => none }
def MemoryKeepsWrongFalsely : Prop := memoryKeepsRow.holds Tryz.pinned (OpenSpec.ofChange memoryKeepsWrong)

/-- 'sacristanlaw09.MemoryAudits': WHATEVER THE INPUT: true; the input reads as it did. -/
def memoryAuditsSpec : ChangeSpec := { name := "memoryAudits", fn := fun _ => fun
  | [d1, d2] => { results := [.lit (.bool true)], args := [d1, d2] }
  | _ => none }
def memoryAuditsRow : OpenClaim := { program := "ytcehkafddlfleaagreatdoor", sum := "c813ec5f8228a50920e362dc54e5781569578515d4bbee85761b4f36c1551966", func := "sacristan/sacristanlaw09.MemoryAudits", spec := "memoryAudits", inPlace := ["internal/reflectlite.ValueOf", "(internal/reflectlite.Value).Type", "(internal/reflectlite.Value).IsNil", "internal/reflectlite.TypeOf", "(internal/reflectlite.Value).Elem", "(internal/reflectlite.Value).Set", "math/bits.Add64", "sync/atomic.AddInt64", "sync/atomic.LoadInt64"], unfollowed := true, recurses := true, named := ["errors.errorType"], plainKeys := false, apart := false, laid := [("errors.errorType", laid_errors_errorType)] }
def MemoryAuditsSaid : Prop := memoryAuditsRow.holds Tryz.pinned (OpenSpec.ofChange memoryAuditsSpec)

/-- ITS FALSE NEIGHBOUR: 'it returns false'. Refute it at one input. -/
def memoryAuditsWrong : ChangeSpec := { name := "memoryAudits", fn := fun _ => fun
  | [d1, d2] => { results := [.lit (.bool false)], args := [d1, d2] }
  | _ => none }
def MemoryAuditsWrongFalsely : Prop := memoryAuditsRow.holds Tryz.pinned (OpenSpec.ofChange memoryAuditsWrong)

/-- 'sacristanlaw09.MemoryNonces': WHATEVER THE INPUT: true; the input reads as it did. -/
def memoryNoncesSpec : ChangeSpec := { name := "memoryNonces", fn := fun _ => fun
  | [d1, d2] => { results := [.lit (.bool true)], args := [d1, d2] }
  | _ => none }
def memoryNoncesRow : OpenClaim := { program := "ytcehkafddlfleaagreatdoor", sum := "c813ec5f8228a50920e362dc54e5781569578515d4bbee85761b4f36c1551966", func := "sacristan/sacristanlaw09.MemoryNonces", spec := "memoryNonces", inPlace := ["internal/reflectlite.ValueOf", "(internal/reflectlite.Value).Type", "(internal/reflectlite.Value).IsNil", "internal/reflectlite.TypeOf", "(internal/reflectlite.Value).Elem", "(internal/reflectlite.Value).Set", "math/bits.Add64", "sync/atomic.AddInt64", "sync/atomic.LoadInt64"], unfollowed := true, recurses := true, named := ["errors.errorType"], plainKeys := false, apart := false, laid := [("errors.errorType", laid_errors_errorType)] }
def MemoryNoncesSaid : Prop := memoryNoncesRow.holds Tryz.pinned (OpenSpec.ofChange memoryNoncesSpec)

/-- ITS FALSE NEIGHBOUR: 'it returns false'. Refute it at one input. -/
def memoryNoncesWrong : ChangeSpec := { name := "memoryNonces", fn := fun _ => fun
  | [d1, d2] => { results := [.lit (.bool false)], args := [d1, d2] }
  | _ => none }
def MemoryNoncesWrongFalsely : Prop := memoryNoncesRow.holds Tryz.pinned (OpenSpec.ofChange memoryNoncesWrong)

/-- 'sacristanlaw09.MemoryLimits': WHATEVER THE INPUT: true; the input reads as it did. -/
def memoryLimitsSpec : ChangeSpec := { name := "memoryLimits", fn := fun _ => fun
  | [d1, d2, d3] => { results := [.lit (.bool true)], args := [d1, d2, d3] }
  | _ => none }
def memoryLimitsRow : OpenClaim := { program := "ytcehkafddlfleaagreatdoor", sum := "c813ec5f8228a50920e362dc54e5781569578515d4bbee85761b4f36c1551966", func := "sacristan/sacristanlaw09.MemoryLimits", spec := "memoryLimits", inPlace := ["internal/reflectlite.ValueOf", "(internal/reflectlite.Value).Type", "(internal/reflectlite.Value).IsNil", "internal/reflectlite.TypeOf", "(internal/reflectlite.Value).Elem", "(internal/reflectlite.Value).Set", "math/bits.Add64", "sync/atomic.AddInt64"], unfollowed := true, recurses := true, named := ["errors.errorType"], plainKeys := false, apart := false, laid := [("errors.errorType", laid_errors_errorType)] }
def MemoryLimitsSaid : Prop := memoryLimitsRow.holds Tryz.pinned (OpenSpec.ofChange memoryLimitsSpec)

/-- ITS FALSE NEIGHBOUR: 'it returns false'. Refute it at one input. -/
def memoryLimitsWrong : ChangeSpec := { name := "memoryLimits", fn := fun _ => fun
  | [d1, d2, d3] => { results := [.lit (.bool false)], args := [d1, d2, d3] }
  | _ => none }
def MemoryLimitsWrongFalsely : Prop := memoryLimitsRow.holds Tryz.pinned (OpenSpec.ofChange memoryLimitsWrong)

/-- 'sacristanlaw09.MemoryKeys': WHATEVER THE INPUT: true; the input reads as it did. -/
def memoryKeysSpec : ChangeSpec := { name := "memoryKeys", fn := fun _ => fun
  | [d] => { results := [.lit (.bool true)], args := [d] }
  | _ => none }
def memoryKeysRow : OpenClaim := { program := "ytcehkafddlfleaagreatdoor", sum := "c813ec5f8228a50920e362dc54e5781569578515d4bbee85761b4f36c1551966", func := "sacristan/sacristanlaw09.MemoryKeys", spec := "memoryKeys", inPlace := ["internal/reflectlite.ValueOf", "(internal/reflectlite.Value).Type", "(internal/reflectlite.Value).IsNil", "internal/reflectlite.TypeOf", "(internal/reflectlite.Value).Elem", "(internal/reflectlite.Value).Set", "math/bits.Add64", "sync/atomic.AddInt64"], unfollowed := true, recurses := true, named := ["errors.errorType"], plainKeys := false, apart := false, laid := [("errors.errorType", laid_errors_errorType)] }
def MemoryKeysSaid : Prop := memoryKeysRow.holds Tryz.pinned (OpenSpec.ofChange memoryKeysSpec)

/-- ITS FALSE NEIGHBOUR: 'it returns false'. Refute it at one input. -/
def memoryKeysWrong : ChangeSpec := { name := "memoryKeys", fn := fun _ => fun
  | [d] => { results := [.lit (.bool false)], args := [d] }
  | _ => none }
def MemoryKeysWrongFalsely : Prop := memoryKeysRow.holds Tryz.pinned (OpenSpec.ofChange memoryKeysWrong)

/-- 'sacristanlaw11.CacheKeeps': WHATEVER THE INPUT: true; the input reads as it did. -/
def cacheKeepsSpec : ChangeSpec := { name := "cacheKeeps", fn := fun _ => fun
  | [d1, d2, d3] => { results := [.lit (.bool true)], args := [d1, d2, d3] }
  | _ => none }
def cacheKeepsRow : OpenClaim := { program := "ytcehkafddlfleaagreatdoor", sum := "c813ec5f8228a50920e362dc54e5781569578515d4bbee85761b4f36c1551966", func := "sacristan/sacristanlaw11.CacheKeeps", spec := "cacheKeeps", inPlace := ["internal/reflectlite.ValueOf", "(internal/reflectlite.Value).Type", "(internal/reflectlite.Value).IsNil", "internal/reflectlite.TypeOf", "(internal/reflectlite.Value).Elem", "(internal/reflectlite.Value).Set", "math/bits.Add64", "sync/atomic.AddInt64"], unfollowed := true, recurses := true, named := ["errors.errorType"], plainKeys := false, apart := false, laid := [("errors.errorType", laid_errors_errorType)] }
def CacheKeepsSaid : Prop := cacheKeepsRow.holds Tryz.pinned (OpenSpec.ofChange cacheKeepsSpec)

/-- ITS FALSE NEIGHBOUR: 'it returns false'. Refute it at one input. -/
def cacheKeepsWrong : ChangeSpec := { name := "cacheKeeps", fn := fun _ => fun
  | [d1, d2, d3] => { results := [.lit (.bool false)], args := [d1, d2, d3] }
  | _ => none }
def CacheKeepsWrongFalsely : Prop := cacheKeepsRow.holds Tryz.pinned (OpenSpec.ofChange cacheKeepsWrong)

/-- 'sacristanlaw11.CacheNewest': WHATEVER THE INPUT: true; the input reads as it did. -/
def cacheNewestSpec : ChangeSpec := { name := "cacheNewest", fn := fun _ => fun
  | [d1, d2, d3] => { results := [.lit (.bool true)], args := [d1, d2, d3] }
  | _ => none }
def cacheNewestRow : OpenClaim := { program := "ytcehkafddlfleaagreatdoor", sum := "c813ec5f8228a50920e362dc54e5781569578515d4bbee85761b4f36c1551966", func := "sacristan/sacristanlaw11.CacheNewest", spec := "cacheNewest", inPlace := ["internal/reflectlite.ValueOf", "(internal/reflectlite.Value).Type", "(internal/reflectlite.Value).IsNil", "internal/reflectlite.TypeOf", "(internal/reflectlite.Value).Elem", "(internal/reflectlite.Value).Set", "math/bits.Add64", "sync/atomic.AddInt64"], unfollowed := true, recurses := true, named := ["errors.errorType"], plainKeys := false, apart := false, laid := [("errors.errorType", laid_errors_errorType)] }
def CacheNewestSaid : Prop := cacheNewestRow.holds Tryz.pinned (OpenSpec.ofChange cacheNewestSpec)

/-- ITS FALSE NEIGHBOUR: 'it returns false'. Refute it at one input. -/
def cacheNewestWrong : ChangeSpec := { name := "cacheNewest", fn := fun _ => fun
  | [d1, d2, d3] => { results := [.lit (.bool false)], args := [d1, d2, d3] }
  | _ => none }
def CacheNewestWrongFalsely : Prop := cacheNewestRow.holds Tryz.pinned (OpenSpec.ofChange cacheNewestWrong)

/-- 'sacristanlaw11.CacheRooms': WHATEVER THE INPUT: true; the input reads as it did. -/
def cacheRoomsSpec : ChangeSpec := { name := "cacheRooms", fn := fun _ => fun
  | [d1, d2, d3, d4] => { results := [.lit (.bool true)], args := [d1, d2, d3, d4] }
  | _ => none }
def cacheRoomsRow : OpenClaim := { program := "ytcehkafddlfleaagreatdoor", sum := "c813ec5f8228a50920e362dc54e5781569578515d4bbee85761b4f36c1551966", func := "sacristan/sacristanlaw11.CacheRooms", spec := "cacheRooms", inPlace := ["internal/reflectlite.ValueOf", "(internal/reflectlite.Value).Type", "(internal/reflectlite.Value).IsNil", "internal/reflectlite.TypeOf", "(internal/reflectlite.Value).Elem", "(internal/reflectlite.Value).Set", "math/bits.Add64", "sync/atomic.AddInt64"], unfollowed := true, recurses := true, named := ["errors.errorType"], plainKeys := false, apart := false, laid := [("errors.errorType", laid_errors_errorType)] }
def CacheRoomsSaid : Prop := cacheRoomsRow.holds Tryz.pinned (OpenSpec.ofChange cacheRoomsSpec)

/-- ITS FALSE NEIGHBOUR: 'it returns false'. Refute it at one input. -/
def cacheRoomsWrong : ChangeSpec := { name := "cacheRooms", fn := fun _ => fun
  | [d1, d2, d3, d4] => { results := [.lit (.bool false)], args := [d1, d2, d3, d4] }
  | _ => none }
def CacheRoomsWrongFalsely : Prop := cacheRoomsRow.holds Tryz.pinned (OpenSpec.ofChange cacheRoomsWrong)

/-- 'sacristanlaw11.CacheOdd': WHATEVER THE INPUT: true; the input reads as it did. -/
def cacheOddSpec : ChangeSpec := { name := "cacheOdd", fn := fun _ => fun
  | [d1, d2, d3] => { results := [.lit (.bool true)], args := [d1, d2, d3] }
  | _ => none }
def cacheOddRow : OpenClaim := { program := "ytcehkafddlfleaagreatdoor", sum := "c813ec5f8228a50920e362dc54e5781569578515d4bbee85761b4f36c1551966", func := "sacristan/sacristanlaw11.CacheOdd", spec := "cacheOdd", inPlace := ["internal/reflectlite.ValueOf", "(internal/reflectlite.Value).Type", "(internal/reflectlite.Value).IsNil", "internal/reflectlite.TypeOf", "(internal/reflectlite.Value).Elem", "(internal/reflectlite.Value).Set", "math/bits.Add64", "sync/atomic.AddInt64"], unfollowed := true, recurses := true, named := ["errors.errorType"], plainKeys := false, apart := false, laid := [("errors.errorType", laid_errors_errorType)] }
def CacheOddSaid : Prop := cacheOddRow.holds Tryz.pinned (OpenSpec.ofChange cacheOddSpec)

/-- ITS FALSE NEIGHBOUR: 'it returns false'. Refute it at one input. -/
def cacheOddWrong : ChangeSpec := { name := "cacheOdd", fn := fun _ => fun
  | [d1, d2, d3] => { results := [.lit (.bool false)], args := [d1, d2, d3] }
  | _ => none }
def CacheOddWrongFalsely : Prop := cacheOddRow.holds Tryz.pinned (OpenSpec.ofChange cacheOddWrong)

/- THE SECOND FORM. 'bulk': how many values and letters a reading holds, each counted each time it is reached (what is shared counts as often as it is met; a slice's spare places count too). A statement '..UptoSaid' is the law's where the arguments, and the package variables that the reading takes, are together of bulk at most 1048576: NARROWER than '..Said'. Prove '..Said' where nothing that the law and all that it calls make is longer than what came in: it says more and counts as full. Else prove '..UptoSaid'. A law counts once. -/
mutual
def uptoBulk {H : Type} : DataW H → Nat
  | .lit (.string bytes) => bytes.length + 1
  | .lit _ => 1
  | .nil => 1
  | .ptr d => uptoBulk d + 1
  | .slice elems spare => uptoBulkAll elems + uptoBulkAll spare + 1
  | .agg parts => uptoBulkAll parts + 1
  | .iface _ d => uptoBulk d + 1
  | .map entries => uptoBulkEntries entries + 1
  | .held _ => 1
def uptoBulkAll {H : Type} : List (DataW H) → Nat
  | [] => 0
  | d :: r => uptoBulk d + uptoBulkAll r
def uptoBulkEntries {H : Type} : List (Lit × DataW H) → Nat
  | [] => 0
  | x :: r => uptoBulkEntry x + uptoBulkEntries r
def uptoBulkEntry {H : Type} : Lit × DataW H → Nat
  | (.string bytes, d) => bytes.length + uptoBulk d + 1
  | (_, d) => uptoBulk d + 1
 end
def uptoSmall : (H : Type) → List (DataW H) → Bool := fun _ ds => decide (uptoBulkAll ds ≤ 1048576)
def OpenSpec.upto (s : _root_.Go.ChangeSpec) : _root_.Go.OpenSpec := { _root_.Go.OpenSpec.ofChange s with cond := some uptoSmall }

/-- 'sacristanlaw09.MemoryKeeps', WHERE WHAT IT READS IS OF BULK AT MOST 1048576: true; the input reads as it did. -/
def memoryKeepsUptoRow : OpenClaim := { program := "ytcehkafddlfleaagreatdoor", sum := "c813ec5f8228a50920e362dc54e5781569578515d4bbee85761b4f36c1551966", func := "sacristan/sacristanlaw09.MemoryKeeps", spec := "memoryKeeps", inPlace := ["internal/reflectlite.ValueOf", "(internal/reflectlite.Value).Type", "(internal/reflectlite.Value).IsNil", "internal/reflectlite.TypeOf", "(internal/reflectlite.Value).Elem", "(internal/reflectlite.Value).Set", "math/bits.Add64", "sync/atomic.AddInt64"], unfollowed := true, recurses := true, named := ["errors.errorType"], plainKeys := false, apart := false, laid := [("errors.errorType", laid_errors_errorType)], narrowed := true }
def MemoryKeepsUptoSaid : Prop := memoryKeepsUptoRow.holds Tryz.pinned (OpenSpec.upto memoryKeepsSpec)

/-- 'sacristanlaw09.MemoryAudits', WHERE WHAT IT READS IS OF BULK AT MOST 1048576: true; the input reads as it did. -/
def memoryAuditsUptoRow : OpenClaim := { program := "ytcehkafddlfleaagreatdoor", sum := "c813ec5f8228a50920e362dc54e5781569578515d4bbee85761b4f36c1551966", func := "sacristan/sacristanlaw09.MemoryAudits", spec := "memoryAudits", inPlace := ["internal/reflectlite.ValueOf", "(internal/reflectlite.Value).Type", "(internal/reflectlite.Value).IsNil", "internal/reflectlite.TypeOf", "(internal/reflectlite.Value).Elem", "(internal/reflectlite.Value).Set", "math/bits.Add64", "sync/atomic.AddInt64", "sync/atomic.LoadInt64"], unfollowed := true, recurses := true, named := ["errors.errorType"], plainKeys := false, apart := false, laid := [("errors.errorType", laid_errors_errorType)], narrowed := true }
def MemoryAuditsUptoSaid : Prop := memoryAuditsUptoRow.holds Tryz.pinned (OpenSpec.upto memoryAuditsSpec)

/-- 'sacristanlaw09.MemoryNonces', WHERE WHAT IT READS IS OF BULK AT MOST 1048576: true; the input reads as it did. -/
def memoryNoncesUptoRow : OpenClaim := { program := "ytcehkafddlfleaagreatdoor", sum := "c813ec5f8228a50920e362dc54e5781569578515d4bbee85761b4f36c1551966", func := "sacristan/sacristanlaw09.MemoryNonces", spec := "memoryNonces", inPlace := ["internal/reflectlite.ValueOf", "(internal/reflectlite.Value).Type", "(internal/reflectlite.Value).IsNil", "internal/reflectlite.TypeOf", "(internal/reflectlite.Value).Elem", "(internal/reflectlite.Value).Set", "math/bits.Add64", "sync/atomic.AddInt64", "sync/atomic.LoadInt64"], unfollowed := true, recurses := true, named := ["errors.errorType"], plainKeys := false, apart := false, laid := [("errors.errorType", laid_errors_errorType)], narrowed := true }
def MemoryNoncesUptoSaid : Prop := memoryNoncesUptoRow.holds Tryz.pinned (OpenSpec.upto memoryNoncesSpec)

/-- 'sacristanlaw09.MemoryLimits', WHERE WHAT IT READS IS OF BULK AT MOST 1048576: true; the input reads as it did. -/
def memoryLimitsUptoRow : OpenClaim := { program := "ytcehkafddlfleaagreatdoor", sum := "c813ec5f8228a50920e362dc54e5781569578515d4bbee85761b4f36c1551966", func := "sacristan/sacristanlaw09.MemoryLimits", spec := "memoryLimits", inPlace := ["internal/reflectlite.ValueOf", "(internal/reflectlite.Value).Type", "(internal/reflectlite.Value).IsNil", "internal/reflectlite.TypeOf", "(internal/reflectlite.Value).Elem", "(internal/reflectlite.Value).Set", "math/bits.Add64", "sync/atomic.AddInt64"], unfollowed := true, recurses := true, named := ["errors.errorType"], plainKeys := false, apart := false, laid := [("errors.errorType", laid_errors_errorType)], narrowed := true }
def MemoryLimitsUptoSaid : Prop := memoryLimitsUptoRow.holds Tryz.pinned (OpenSpec.upto memoryLimitsSpec)

/-- 'sacristanlaw09.MemoryKeys', WHERE WHAT IT READS IS OF BULK AT MOST 1048576: true; the input reads as it did. -/
def memoryKeysUptoRow : OpenClaim := { program := "ytcehkafddlfleaagreatdoor", sum := "c813ec5f8228a50920e362dc54e5781569578515d4bbee85761b4f36c1551966", func := "sacristan/sacristanlaw09.MemoryKeys", spec := "memoryKeys", inPlace := ["internal/reflectlite.ValueOf", "(internal/reflectlite.Value).Type", "(internal/reflectlite.Value).IsNil", "internal/reflectlite.TypeOf", "(internal/reflectlite.Value).Elem", "(internal/reflectlite.Value).Set", "math/bits.Add64", "sync/atomic.AddInt64"], unfollowed := true, recurses := true, named := ["errors.errorType"], plainKeys := false, apart := false, laid := [("errors.errorType", laid_errors_errorType)], narrowed := true }
def MemoryKeysUptoSaid : Prop := memoryKeysUptoRow.holds Tryz.pinned (OpenSpec.upto memoryKeysSpec)

/-- 'sacristanlaw11.CacheKeeps', WHERE WHAT IT READS IS OF BULK AT MOST 1048576: true; the input reads as it did. -/
def cacheKeepsUptoRow : OpenClaim := { program := "ytcehkafddlfleaagreatdoor", sum := "c813ec5f8228a50920e362dc54e5781569578515d4bbee85761b4f36c1551966", func := "sacristan/sacristanlaw11.CacheKeeps", spec := "cacheKeeps", inPlace := ["internal/reflectlite.ValueOf", "(internal/reflectlite.Value).Type", "(internal/reflectlite.Value).IsNil", "internal/reflectlite.TypeOf", "(internal/reflectlite.Value).Elem", "(internal/reflectlite.Value).Set", "math/bits.Add64", "sync/atomic.AddInt64"], unfollowed := true, recurses := true, named := ["errors.errorType"], plainKeys := false, apart := false, laid := [("errors.errorType", laid_errors_errorType)], narrowed := true }
def CacheKeepsUptoSaid : Prop := cacheKeepsUptoRow.holds Tryz.pinned (OpenSpec.upto cacheKeepsSpec)

/-- 'sacristanlaw11.CacheNewest', WHERE WHAT IT READS IS OF BULK AT MOST 1048576: true; the input reads as it did. -/
def cacheNewestUptoRow : OpenClaim := { program := "ytcehkafddlfleaagreatdoor", sum := "c813ec5f8228a50920e362dc54e5781569578515d4bbee85761b4f36c1551966", func := "sacristan/sacristanlaw11.CacheNewest", spec := "cacheNewest", inPlace := ["internal/reflectlite.ValueOf", "(internal/reflectlite.Value).Type", "(internal/reflectlite.Value).IsNil", "internal/reflectlite.TypeOf", "(internal/reflectlite.Value).Elem", "(internal/reflectlite.Value).Set", "math/bits.Add64", "sync/atomic.AddInt64"], unfollowed := true, recurses := true, named := ["errors.errorType"], plainKeys := false, apart := false, laid := [("errors.errorType", laid_errors_errorType)], narrowed := true }
def CacheNewestUptoSaid : Prop := cacheNewestUptoRow.holds Tryz.pinned (OpenSpec.upto cacheNewestSpec)

/-- 'sacristanlaw11.CacheRooms', WHERE WHAT IT READS IS OF BULK AT MOST 1048576: true; the input reads as it did. -/
def cacheRoomsUptoRow : OpenClaim := { program := "ytcehkafddlfleaagreatdoor", sum := "c813ec5f8228a50920e362dc54e5781569578515d4bbee85761b4f36c1551966", func := "sacristan/sacristanlaw11.CacheRooms", spec := "cacheRooms", inPlace := ["internal/reflectlite.ValueOf", "(internal/reflectlite.Value).Type", "(internal/reflectlite.Value).IsNil", "internal/reflectlite.TypeOf", "(internal/reflectlite.Value).Elem", "(internal/reflectlite.Value).Set", "math/bits.Add64", "sync/atomic.AddInt64"], unfollowed := true, recurses := true, named := ["errors.errorType"], plainKeys := false, apart := false, laid := [("errors.errorType", laid_errors_errorType)], narrowed := true }
def CacheRoomsUptoSaid : Prop := cacheRoomsUptoRow.holds Tryz.pinned (OpenSpec.upto cacheRoomsSpec)

/-- 'sacristanlaw11.CacheOdd', WHERE WHAT IT READS IS OF BULK AT MOST 1048576: true; the input reads as it did. -/
def cacheOddUptoRow : OpenClaim := { program := "ytcehkafddlfleaagreatdoor", sum := "c813ec5f8228a50920e362dc54e5781569578515d4bbee85761b4f36c1551966", func := "sacristan/sacristanlaw11.CacheOdd", spec := "cacheOdd", inPlace := ["internal/reflectlite.ValueOf", "(internal/reflectlite.Value).Type", "(internal/reflectlite.Value).IsNil", "internal/reflectlite.TypeOf", "(internal/reflectlite.Value).Elem", "(internal/reflectlite.Value).Set", "math/bits.Add64", "sync/atomic.AddInt64"], unfollowed := true, recurses := true, named := ["errors.errorType"], plainKeys := false, apart := false, laid := [("errors.errorType", laid_errors_errorType)], narrowed := true }
def CacheOddUptoSaid : Prop := cacheOddUptoRow.holds Tryz.pinned (OpenSpec.upto cacheOddSpec)

end Rows
end Go.Proofs.YtcehkafddlfleaaGreatDoor
