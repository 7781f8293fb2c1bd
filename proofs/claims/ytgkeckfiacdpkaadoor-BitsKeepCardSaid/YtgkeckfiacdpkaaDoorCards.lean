/-
  DERIVED. GIVEN WITH THE SEED: THE CARDS: each row of YtgkeckfiacdpkaaDoorRows.lean that lists a variable, with what it lists TIED to the program's text (the seventh form; the later family's looks); each row that meets fmt, with fmt's text TOLD by the authors' own Lean function (tested against real Go, not proved from fmt's source: count such statements apart). THE CARD IS WHAT COUNTS. Prove the row's statement (the work); the ties are given (YtgkeckfiacdpkaaDoorTie.lean); close each card by the builder's one call (the guide's Derived/Test/ToyasCard.lean, 'card_holds'). Laid BY PROGRAM, IN A SANDBOX (cutbox-door.mjs). By AI agents, Wed Nov 11 2026. No macro, syntax, notation, axiom, sorry.
-/
import Derived.Test.YtgkeckfiacdpkaaDoorRows
import GoSem.ClaimSeven
namespace Go.Proofs.YtgkeckfiacdpkaaDoor
namespace Rows

/-- THE TIED CARD OF 'sacristanlaw12.BitsTells'. -/
def bitsTellsCard : Claim7 := { stood := { row := bitsTellsRow, standIns := [], harness := (true, "21ecc6bf37aea722675e6634d328c166c1e5c6160fe7fe94eab17791b0bb4f24"), looks := false }, kinds := [], alts := [], laidByText := true, laidKinds := [.data], laidTests := true, laidLooks := .later }
def BitsTellsCardSaid : Prop := Claim7.holds Tryd.pinned (.plain (OpenSpec.ofChange bitsTellsSpec)) bitsTellsCard

/-- THE TIED CARD OF 'sacristanlaw12.BitsKeep'. -/
def bitsKeepCard : Claim7 := { stood := { row := bitsKeepRow, standIns := [], harness := (true, "21ecc6bf37aea722675e6634d328c166c1e5c6160fe7fe94eab17791b0bb4f24"), looks := false }, kinds := [], alts := [], laidByText := true, laidKinds := [.data], laidTests := true, laidLooks := .later }
def BitsKeepCardSaid : Prop := Claim7.holds Tryd.pinned (.plain (OpenSpec.ofChange bitsKeepSpec)) bitsKeepCard

/-- THE TIED CARD OF 'sacristanlaw12.BitsFree'. -/
def bitsFreeCard : Claim7 := { stood := { row := bitsFreeRow, standIns := [], harness := (true, "21ecc6bf37aea722675e6634d328c166c1e5c6160fe7fe94eab17791b0bb4f24"), looks := false }, kinds := [], alts := [], laidByText := true, laidKinds := [.data], laidTests := true, laidLooks := .later }
def BitsFreeCardSaid : Prop := Claim7.holds Tryd.pinned (.plain (OpenSpec.ofChange bitsFreeSpec)) bitsFreeCard

/-- THE TIED CARD OF 'sacristanlaw12.BitsAll'. -/
def bitsAllCard : Claim7 := { stood := { row := bitsAllRow, standIns := [], harness := (true, "21ecc6bf37aea722675e6634d328c166c1e5c6160fe7fe94eab17791b0bb4f24"), looks := false }, kinds := [], alts := [], laidByText := true, laidKinds := [.data], laidTests := true, laidLooks := .later }
def BitsAllCardSaid : Prop := Claim7.holds Tryd.pinned (.plain (OpenSpec.ofChange bitsAllSpec)) bitsAllCard

/-- THE TIED CARD OF 'sacristanlaw12.BitsFirst'. -/
def bitsFirstCard : Claim7 := { stood := { row := bitsFirstRow, standIns := [], harness := (true, "21ecc6bf37aea722675e6634d328c166c1e5c6160fe7fe94eab17791b0bb4f24"), looks := false }, kinds := [], alts := [], laidByText := true, laidKinds := [.data], laidTests := true, laidLooks := .later }
def BitsFirstCardSaid : Prop := Claim7.holds Tryd.pinned (.plain (OpenSpec.ofChange bitsFirstSpec)) bitsFirstCard

/-- THE TIED CARD OF 'sacristanlaw12.BitsTwice'. -/
def bitsTwiceCard : Claim7 := { stood := { row := bitsTwiceRow, standIns := [], harness := (true, "21ecc6bf37aea722675e6634d328c166c1e5c6160fe7fe94eab17791b0bb4f24"), looks := false }, kinds := [], alts := [], laidByText := true, laidKinds := [.data], laidTests := true, laidLooks := .later }
def BitsTwiceCardSaid : Prop := Claim7.holds Tryd.pinned (.plain (OpenSpec.ofChange bitsTwiceSpec)) bitsTwiceCard

/-- THE SECOND FORM's CARD OF 'sacristanlaw12.BitsTells'. -/
def bitsTellsUptoCard : Claim7 := { stood := { row := bitsTellsUptoRow, standIns := [], harness := (true, "21ecc6bf37aea722675e6634d328c166c1e5c6160fe7fe94eab17791b0bb4f24"), looks := false }, kinds := [], alts := [], laidByText := true, laidKinds := [.data], laidTests := true, laidLooks := .later }
def BitsTellsUptoCardSaid : Prop := Claim7.holds Tryd.pinned (.plain (OpenSpec.upto bitsTellsSpec)) bitsTellsUptoCard

/-- THE SECOND FORM's CARD OF 'sacristanlaw12.BitsKeep'. -/
def bitsKeepUptoCard : Claim7 := { stood := { row := bitsKeepUptoRow, standIns := [], harness := (true, "21ecc6bf37aea722675e6634d328c166c1e5c6160fe7fe94eab17791b0bb4f24"), looks := false }, kinds := [], alts := [], laidByText := true, laidKinds := [.data], laidTests := true, laidLooks := .later }
def BitsKeepUptoCardSaid : Prop := Claim7.holds Tryd.pinned (.plain (OpenSpec.upto bitsKeepSpec)) bitsKeepUptoCard

/-- THE SECOND FORM's CARD OF 'sacristanlaw12.BitsFree'. -/
def bitsFreeUptoCard : Claim7 := { stood := { row := bitsFreeUptoRow, standIns := [], harness := (true, "21ecc6bf37aea722675e6634d328c166c1e5c6160fe7fe94eab17791b0bb4f24"), looks := false }, kinds := [], alts := [], laidByText := true, laidKinds := [.data], laidTests := true, laidLooks := .later }
def BitsFreeUptoCardSaid : Prop := Claim7.holds Tryd.pinned (.plain (OpenSpec.upto bitsFreeSpec)) bitsFreeUptoCard

/-- THE SECOND FORM's CARD OF 'sacristanlaw12.BitsAll'. -/
def bitsAllUptoCard : Claim7 := { stood := { row := bitsAllUptoRow, standIns := [], harness := (true, "21ecc6bf37aea722675e6634d328c166c1e5c6160fe7fe94eab17791b0bb4f24"), looks := false }, kinds := [], alts := [], laidByText := true, laidKinds := [.data], laidTests := true, laidLooks := .later }
def BitsAllUptoCardSaid : Prop := Claim7.holds Tryd.pinned (.plain (OpenSpec.upto bitsAllSpec)) bitsAllUptoCard

/-- THE SECOND FORM's CARD OF 'sacristanlaw12.BitsFirst'. -/
def bitsFirstUptoCard : Claim7 := { stood := { row := bitsFirstUptoRow, standIns := [], harness := (true, "21ecc6bf37aea722675e6634d328c166c1e5c6160fe7fe94eab17791b0bb4f24"), looks := false }, kinds := [], alts := [], laidByText := true, laidKinds := [.data], laidTests := true, laidLooks := .later }
def BitsFirstUptoCardSaid : Prop := Claim7.holds Tryd.pinned (.plain (OpenSpec.upto bitsFirstSpec)) bitsFirstUptoCard

/-- THE SECOND FORM's CARD OF 'sacristanlaw12.BitsTwice'. -/
def bitsTwiceUptoCard : Claim7 := { stood := { row := bitsTwiceUptoRow, standIns := [], harness := (true, "21ecc6bf37aea722675e6634d328c166c1e5c6160fe7fe94eab17791b0bb4f24"), looks := false }, kinds := [], alts := [], laidByText := true, laidKinds := [.data], laidTests := true, laidLooks := .later }
def BitsTwiceUptoCardSaid : Prop := Claim7.holds Tryd.pinned (.plain (OpenSpec.upto bitsTwiceSpec)) bitsTwiceUptoCard
end Rows
end Go.Proofs.YtgkeckfiacdpkaaDoor
