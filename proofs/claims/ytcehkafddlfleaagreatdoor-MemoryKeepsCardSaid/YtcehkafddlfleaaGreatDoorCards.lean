/-
  DERIVED. GIVEN WITH THE SEED: THE CARDS: each row of YtcehkafddlfleaaGreatDoorRows.lean that lists a variable, with what it lists TIED to the program's text (the seventh form; the later family's looks); each row that meets fmt, with fmt's text TOLD by the authors' own Lean function (tested against real Go, not proved from fmt's source: count such statements apart). THE CARD IS WHAT COUNTS. Prove the row's statement (the work); the ties are given (YtcehkafddlfleaaGreatDoorTie.lean); close each card by the builder's one call (the guide's Derived/Test/ToyasCard.lean, 'card_holds'). Laid BY PROGRAM, IN A SANDBOX (cutbox-door.mjs). By AI agents, Wed Nov 11 2026. No macro, syntax, notation, axiom, sorry.
-/
import Derived.Test.YtcehkafddlfleaaGreatDoorRows
import GoSem.ClaimSeven
namespace Go.Proofs.YtcehkafddlfleaaGreatDoor
namespace Rows

/-- THE TIED CARD OF 'sacristanlaw09.MemoryKeeps'. -/
def memoryKeepsCard : Claim7 := { stood := { row := memoryKeepsRow, standIns := [], harness := (true, "fb4f19e05d2421cd6416909245595fb5013bd44e680a814f5d1528e70fbfef31"), looks := true }, kinds := [], alts := [], laidByText := true, laidKinds := [.handle], laidTests := true, laidLooks := .later }
def MemoryKeepsCardSaid : Prop := Claim7.holds Tryz.pinned (.plain (OpenSpec.ofChange memoryKeepsSpec)) memoryKeepsCard

/-- THE TIED CARD OF 'sacristanlaw09.MemoryAudits'. -/
def memoryAuditsCard : Claim7 := { stood := { row := memoryAuditsRow, standIns := [], harness := (true, "fb4f19e05d2421cd6416909245595fb5013bd44e680a814f5d1528e70fbfef31"), looks := true }, kinds := [], alts := [], laidByText := true, laidKinds := [.handle], laidTests := true, laidLooks := .later }
def MemoryAuditsCardSaid : Prop := Claim7.holds Tryz.pinned (.plain (OpenSpec.ofChange memoryAuditsSpec)) memoryAuditsCard

/-- THE TIED CARD OF 'sacristanlaw09.MemoryNonces'. -/
def memoryNoncesCard : Claim7 := { stood := { row := memoryNoncesRow, standIns := [], harness := (true, "fb4f19e05d2421cd6416909245595fb5013bd44e680a814f5d1528e70fbfef31"), looks := true }, kinds := [], alts := [], laidByText := true, laidKinds := [.handle], laidTests := true, laidLooks := .later }
def MemoryNoncesCardSaid : Prop := Claim7.holds Tryz.pinned (.plain (OpenSpec.ofChange memoryNoncesSpec)) memoryNoncesCard

/-- THE TIED CARD OF 'sacristanlaw09.MemoryLimits'. -/
def memoryLimitsCard : Claim7 := { stood := { row := memoryLimitsRow, standIns := [], harness := (true, "fb4f19e05d2421cd6416909245595fb5013bd44e680a814f5d1528e70fbfef31"), looks := true }, kinds := [], alts := [], laidByText := true, laidKinds := [.handle], laidTests := true, laidLooks := .later }
def MemoryLimitsCardSaid : Prop := Claim7.holds Tryz.pinned (.plain (OpenSpec.ofChange memoryLimitsSpec)) memoryLimitsCard

/-- THE TIED CARD OF 'sacristanlaw09.MemoryKeys'. -/
def memoryKeysCard : Claim7 := { stood := { row := memoryKeysRow, standIns := [], harness := (true, "fb4f19e05d2421cd6416909245595fb5013bd44e680a814f5d1528e70fbfef31"), looks := true }, kinds := [], alts := [], laidByText := true, laidKinds := [.handle], laidTests := true, laidLooks := .later }
def MemoryKeysCardSaid : Prop := Claim7.holds Tryz.pinned (.plain (OpenSpec.ofChange memoryKeysSpec)) memoryKeysCard

/-- THE TIED CARD OF 'sacristanlaw11.CacheKeeps'. -/
def cacheKeepsCard : Claim7 := { stood := { row := cacheKeepsRow, standIns := [], harness := (true, "fb4f19e05d2421cd6416909245595fb5013bd44e680a814f5d1528e70fbfef31"), looks := true }, kinds := [], alts := [], laidByText := true, laidKinds := [.handle], laidTests := true, laidLooks := .later }
def CacheKeepsCardSaid : Prop := Claim7.holds Tryz.pinned (.plain (OpenSpec.ofChange cacheKeepsSpec)) cacheKeepsCard

/-- THE TIED CARD OF 'sacristanlaw11.CacheNewest'. -/
def cacheNewestCard : Claim7 := { stood := { row := cacheNewestRow, standIns := [], harness := (true, "fb4f19e05d2421cd6416909245595fb5013bd44e680a814f5d1528e70fbfef31"), looks := true }, kinds := [], alts := [], laidByText := true, laidKinds := [.handle], laidTests := true, laidLooks := .later }
def CacheNewestCardSaid : Prop := Claim7.holds Tryz.pinned (.plain (OpenSpec.ofChange cacheNewestSpec)) cacheNewestCard

/-- THE TIED CARD OF 'sacristanlaw11.CacheRooms'. -/
def cacheRoomsCard : Claim7 := { stood := { row := cacheRoomsRow, standIns := [], harness := (true, "fb4f19e05d2421cd6416909245595fb5013bd44e680a814f5d1528e70fbfef31"), looks := true }, kinds := [], alts := [], laidByText := true, laidKinds := [.handle], laidTests := true, laidLooks := .later }
def CacheRoomsCardSaid : Prop := Claim7.holds Tryz.pinned (.plain (OpenSpec.ofChange cacheRoomsSpec)) cacheRoomsCard

/-- THE TIED CARD OF 'sacristanlaw11.CacheOdd'. -/
def cacheOddCard : Claim7 := { stood := { row := cacheOddRow, standIns := [], harness := (true, "fb4f19e05d2421cd6416909245595fb5013bd44e680a814f5d1528e70fbfef31"), looks := true }, kinds := [], alts := [], laidByText := true, laidKinds := [.handle], laidTests := true, laidLooks := .later }
def CacheOddCardSaid : Prop := Claim7.holds Tryz.pinned (.plain (OpenSpec.ofChange cacheOddSpec)) cacheOddCard

/-- THE SECOND FORM's CARD OF 'sacristanlaw09.MemoryKeeps'. -/
def memoryKeepsUptoCard : Claim7 := { stood := { row := memoryKeepsUptoRow, standIns := [], harness := (true, "fb4f19e05d2421cd6416909245595fb5013bd44e680a814f5d1528e70fbfef31"), looks := true }, kinds := [], alts := [], laidByText := true, laidKinds := [.handle], laidTests := true, laidLooks := .later }
def MemoryKeepsUptoCardSaid : Prop := Claim7.holds Tryz.pinned (.plain (OpenSpec.upto memoryKeepsSpec)) memoryKeepsUptoCard

/-- THE SECOND FORM's CARD OF 'sacristanlaw09.MemoryAudits'. -/
def memoryAuditsUptoCard : Claim7 := { stood := { row := memoryAuditsUptoRow, standIns := [], harness := (true, "fb4f19e05d2421cd6416909245595fb5013bd44e680a814f5d1528e70fbfef31"), looks := true }, kinds := [], alts := [], laidByText := true, laidKinds := [.handle], laidTests := true, laidLooks := .later }
def MemoryAuditsUptoCardSaid : Prop := Claim7.holds Tryz.pinned (.plain (OpenSpec.upto memoryAuditsSpec)) memoryAuditsUptoCard

/-- THE SECOND FORM's CARD OF 'sacristanlaw09.MemoryNonces'. -/
def memoryNoncesUptoCard : Claim7 := { stood := { row := memoryNoncesUptoRow, standIns := [], harness := (true, "fb4f19e05d2421cd6416909245595fb5013bd44e680a814f5d1528e70fbfef31"), looks := true }, kinds := [], alts := [], laidByText := true, laidKinds := [.handle], laidTests := true, laidLooks := .later }
def MemoryNoncesUptoCardSaid : Prop := Claim7.holds Tryz.pinned (.plain (OpenSpec.upto memoryNoncesSpec)) memoryNoncesUptoCard

/-- THE SECOND FORM's CARD OF 'sacristanlaw09.MemoryLimits'. -/
def memoryLimitsUptoCard : Claim7 := { stood := { row := memoryLimitsUptoRow, standIns := [], harness := (true, "fb4f19e05d2421cd6416909245595fb5013bd44e680a814f5d1528e70fbfef31"), looks := true }, kinds := [], alts := [], laidByText := true, laidKinds := [.handle], laidTests := true, laidLooks := .later }
def MemoryLimitsUptoCardSaid : Prop := Claim7.holds Tryz.pinned (.plain (OpenSpec.upto memoryLimitsSpec)) memoryLimitsUptoCard

/-- THE SECOND FORM's CARD OF 'sacristanlaw09.MemoryKeys'. -/
def memoryKeysUptoCard : Claim7 := { stood := { row := memoryKeysUptoRow, standIns := [], harness := (true, "fb4f19e05d2421cd6416909245595fb5013bd44e680a814f5d1528e70fbfef31"), looks := true }, kinds := [], alts := [], laidByText := true, laidKinds := [.handle], laidTests := true, laidLooks := .later }
def MemoryKeysUptoCardSaid : Prop := Claim7.holds Tryz.pinned (.plain (OpenSpec.upto memoryKeysSpec)) memoryKeysUptoCard

/-- THE SECOND FORM's CARD OF 'sacristanlaw11.CacheKeeps'. -/
def cacheKeepsUptoCard : Claim7 := { stood := { row := cacheKeepsUptoRow, standIns := [], harness := (true, "fb4f19e05d2421cd6416909245595fb5013bd44e680a814f5d1528e70fbfef31"), looks := true }, kinds := [], alts := [], laidByText := true, laidKinds := [.handle], laidTests := true, laidLooks := .later }
def CacheKeepsUptoCardSaid : Prop := Claim7.holds Tryz.pinned (.plain (OpenSpec.upto cacheKeepsSpec)) cacheKeepsUptoCard

/-- THE SECOND FORM's CARD OF 'sacristanlaw11.CacheNewest'. -/
def cacheNewestUptoCard : Claim7 := { stood := { row := cacheNewestUptoRow, standIns := [], harness := (true, "fb4f19e05d2421cd6416909245595fb5013bd44e680a814f5d1528e70fbfef31"), looks := true }, kinds := [], alts := [], laidByText := true, laidKinds := [.handle], laidTests := true, laidLooks := .later }
def CacheNewestUptoCardSaid : Prop := Claim7.holds Tryz.pinned (.plain (OpenSpec.upto cacheNewestSpec)) cacheNewestUptoCard

/-- THE SECOND FORM's CARD OF 'sacristanlaw11.CacheRooms'. -/
def cacheRoomsUptoCard : Claim7 := { stood := { row := cacheRoomsUptoRow, standIns := [], harness := (true, "fb4f19e05d2421cd6416909245595fb5013bd44e680a814f5d1528e70fbfef31"), looks := true }, kinds := [], alts := [], laidByText := true, laidKinds := [.handle], laidTests := true, laidLooks := .later }
def CacheRoomsUptoCardSaid : Prop := Claim7.holds Tryz.pinned (.plain (OpenSpec.upto cacheRoomsSpec)) cacheRoomsUptoCard

/-- THE SECOND FORM's CARD OF 'sacristanlaw11.CacheOdd'. -/
def cacheOddUptoCard : Claim7 := { stood := { row := cacheOddUptoRow, standIns := [], harness := (true, "fb4f19e05d2421cd6416909245595fb5013bd44e680a814f5d1528e70fbfef31"), looks := true }, kinds := [], alts := [], laidByText := true, laidKinds := [.handle], laidTests := true, laidLooks := .later }
def CacheOddUptoCardSaid : Prop := Claim7.holds Tryz.pinned (.plain (OpenSpec.upto cacheOddSpec)) cacheOddUptoCard
end Rows
end Go.Proofs.YtcehkafddlfleaaGreatDoor
