/-
  DERIVED. GIVEN WITH THE SEED: THE CARDS: each row of YtfogkkanifnppaaGreatDoorRows.lean that lists a variable, with what it lists TIED to the program's text (the seventh form; the later family's looks); each row that meets fmt, with fmt's text TOLD by the authors' own Lean function (tested against real Go, not proved from fmt's source: count such statements apart). THE CARD IS WHAT COUNTS. Prove the row's statement (the work); the ties are given (YtfogkkanifnppaaGreatDoorTie.lean); close each card by the builder's one call (the guide's Derived/Test/ToyasCard.lean, 'card_holds'). Laid BY PROGRAM, IN A SANDBOX (cutbox-door.mjs). By AI agents, Wed Nov 11 2026. No macro, syntax, notation, axiom, sorry.
-/
import Derived.Test.YtfogkkanifnppaaGreatDoorRows
import GoSem.ClaimSeven
namespace Go.Proofs.YtfogkkanifnppaaGreatDoor
namespace Rows

/-- THE TIED CARD OF 'joinlearnlaw02.RationalTurns'. -/
def rationalTurnsCard : Claim7 := { stood := { row := rationalTurnsRow, standIns := [], harness := (true, "1f2050d5b7eb3f29045a086a2a8d41b80a509fa6cc66ddb12d8ba03b5269303e"), looks := true }, kinds := [], alts := [], laidByText := true, laidKinds := [.data, .data, .data, .data, .sentinel, .sentinel, .pinned], laidTests := true, laidLooks := .later }
def RationalTurnsCardSaid : Prop := Claim7.holds Tryz.pinned (.plain (OpenSpec.ofChange rationalTurnsSpec)) rationalTurnsCard

/-- THE TIED CARD OF 'joinlearnlaw02.RationalFloors'. -/
def rationalFloorsCard : Claim7 := { stood := { row := rationalFloorsRow, standIns := [], harness := (true, "1f2050d5b7eb3f29045a086a2a8d41b80a509fa6cc66ddb12d8ba03b5269303e"), looks := true }, kinds := [], alts := [], laidByText := true, laidKinds := [.data, .data, .data, .data, .sentinel, .sentinel, .pinned], laidTests := true, laidLooks := .later }
def RationalFloorsCardSaid : Prop := Claim7.holds Tryz.pinned (.plain (OpenSpec.ofChange rationalFloorsSpec)) rationalFloorsCard

/-- THE TIED CARD OF 'joinlearnlaw02.RationalExact'. -/
def rationalExactCard : Claim7 := { stood := { row := rationalExactRow, standIns := [], harness := (true, "1f2050d5b7eb3f29045a086a2a8d41b80a509fa6cc66ddb12d8ba03b5269303e"), looks := true }, kinds := [], alts := [], laidByText := true, laidKinds := [.data, .data, .data, .data, .sentinel, .sentinel, .pinned], laidTests := true, laidLooks := .later }
def RationalExactCardSaid : Prop := Claim7.holds Tryz.pinned (.plain (OpenSpec.ofChange rationalExactSpec)) rationalExactCard

/-- THE TIED CARD OF 'joinlearnlaw02.RationalSums'. -/
def rationalSumsCard : Claim7 := { stood := { row := rationalSumsRow, standIns := [], harness := (true, "1f2050d5b7eb3f29045a086a2a8d41b80a509fa6cc66ddb12d8ba03b5269303e"), looks := true }, kinds := [], alts := [], laidByText := true, laidKinds := [.data, .data, .data, .data, .sentinel, .sentinel, .pinned], laidTests := true, laidLooks := .later }
def RationalSumsCardSaid : Prop := Claim7.holds Tryz.pinned (.plain (OpenSpec.ofChange rationalSumsSpec)) rationalSumsCard

/-- THE TIED CARD OF 'joinlearnlaw02.RationalField'. -/
def rationalFieldCard : Claim7 := { stood := { row := rationalFieldRow, standIns := [], harness := (true, "1f2050d5b7eb3f29045a086a2a8d41b80a509fa6cc66ddb12d8ba03b5269303e"), looks := true }, kinds := [], alts := [], laidByText := true, laidKinds := [.data, .data, .data, .data, .sentinel, .sentinel, .pinned], laidTests := true, laidLooks := .later }
def RationalFieldCardSaid : Prop := Claim7.holds Tryz.pinned (.plain (OpenSpec.ofChange rationalFieldSpec)) rationalFieldCard

/-- THE TIED CARD OF 'joinlearnlaw02.RationalOrder'. -/
def rationalOrderCard : Claim7 := { stood := { row := rationalOrderRow, standIns := [], harness := (true, "1f2050d5b7eb3f29045a086a2a8d41b80a509fa6cc66ddb12d8ba03b5269303e"), looks := true }, kinds := [], alts := [], laidByText := true, laidKinds := [.data, .data, .data, .data, .sentinel, .sentinel, .pinned], laidTests := true, laidLooks := .later }
def RationalOrderCardSaid : Prop := Claim7.holds Tryz.pinned (.plain (OpenSpec.ofChange rationalOrderSpec)) rationalOrderCard

/-- THE TIED CARD OF 'joinlearnlaw02.RationalParts'. -/
def rationalPartsCard : Claim7 := { stood := { row := rationalPartsRow, standIns := [], harness := (true, "1f2050d5b7eb3f29045a086a2a8d41b80a509fa6cc66ddb12d8ba03b5269303e"), looks := true }, kinds := [], alts := [], laidByText := true, laidKinds := [.data, .data, .data, .data, .sentinel, .sentinel, .pinned], laidTests := true, laidLooks := .later }
def RationalPartsCardSaid : Prop := Claim7.holds Tryz.pinned (.plain (OpenSpec.ofChange rationalPartsSpec)) rationalPartsCard

/-- THE TIED CARD OF 'joinlearnlaw02.RationalDot'. -/
def rationalDotCard : Claim7 := { stood := { row := rationalDotRow, standIns := [], harness := (true, "1f2050d5b7eb3f29045a086a2a8d41b80a509fa6cc66ddb12d8ba03b5269303e"), looks := true }, kinds := [], alts := [], laidByText := true, laidKinds := [.data, .data, .data, .data, .sentinel, .sentinel, .pinned], laidTests := true, laidLooks := .later }
def RationalDotCardSaid : Prop := Claim7.holds Tryz.pinned (.plain (OpenSpec.ofChange rationalDotSpec)) rationalDotCard

/-- THE SECOND FORM's CARD OF 'joinlearnlaw02.RationalTurns'. -/
def rationalTurnsUptoCard : Claim7 := { stood := { row := rationalTurnsUptoRow, standIns := [], harness := (true, "1f2050d5b7eb3f29045a086a2a8d41b80a509fa6cc66ddb12d8ba03b5269303e"), looks := true }, kinds := [], alts := [], laidByText := true, laidKinds := [.data, .data, .data, .data, .sentinel, .sentinel, .pinned], laidTests := true, laidLooks := .later }
def RationalTurnsUptoCardSaid : Prop := Claim7.holds Tryz.pinned (.plain (OpenSpec.upto rationalTurnsSpec)) rationalTurnsUptoCard

/-- THE SECOND FORM's CARD OF 'joinlearnlaw02.RationalFloors'. -/
def rationalFloorsUptoCard : Claim7 := { stood := { row := rationalFloorsUptoRow, standIns := [], harness := (true, "1f2050d5b7eb3f29045a086a2a8d41b80a509fa6cc66ddb12d8ba03b5269303e"), looks := true }, kinds := [], alts := [], laidByText := true, laidKinds := [.data, .data, .data, .data, .sentinel, .sentinel, .pinned], laidTests := true, laidLooks := .later }
def RationalFloorsUptoCardSaid : Prop := Claim7.holds Tryz.pinned (.plain (OpenSpec.upto rationalFloorsSpec)) rationalFloorsUptoCard

/-- THE SECOND FORM's CARD OF 'joinlearnlaw02.RationalExact'. -/
def rationalExactUptoCard : Claim7 := { stood := { row := rationalExactUptoRow, standIns := [], harness := (true, "1f2050d5b7eb3f29045a086a2a8d41b80a509fa6cc66ddb12d8ba03b5269303e"), looks := true }, kinds := [], alts := [], laidByText := true, laidKinds := [.data, .data, .data, .data, .sentinel, .sentinel, .pinned], laidTests := true, laidLooks := .later }
def RationalExactUptoCardSaid : Prop := Claim7.holds Tryz.pinned (.plain (OpenSpec.upto rationalExactSpec)) rationalExactUptoCard

/-- THE SECOND FORM's CARD OF 'joinlearnlaw02.RationalSums'. -/
def rationalSumsUptoCard : Claim7 := { stood := { row := rationalSumsUptoRow, standIns := [], harness := (true, "1f2050d5b7eb3f29045a086a2a8d41b80a509fa6cc66ddb12d8ba03b5269303e"), looks := true }, kinds := [], alts := [], laidByText := true, laidKinds := [.data, .data, .data, .data, .sentinel, .sentinel, .pinned], laidTests := true, laidLooks := .later }
def RationalSumsUptoCardSaid : Prop := Claim7.holds Tryz.pinned (.plain (OpenSpec.upto rationalSumsSpec)) rationalSumsUptoCard

/-- THE SECOND FORM's CARD OF 'joinlearnlaw02.RationalField'. -/
def rationalFieldUptoCard : Claim7 := { stood := { row := rationalFieldUptoRow, standIns := [], harness := (true, "1f2050d5b7eb3f29045a086a2a8d41b80a509fa6cc66ddb12d8ba03b5269303e"), looks := true }, kinds := [], alts := [], laidByText := true, laidKinds := [.data, .data, .data, .data, .sentinel, .sentinel, .pinned], laidTests := true, laidLooks := .later }
def RationalFieldUptoCardSaid : Prop := Claim7.holds Tryz.pinned (.plain (OpenSpec.upto rationalFieldSpec)) rationalFieldUptoCard

/-- THE SECOND FORM's CARD OF 'joinlearnlaw02.RationalOrder'. -/
def rationalOrderUptoCard : Claim7 := { stood := { row := rationalOrderUptoRow, standIns := [], harness := (true, "1f2050d5b7eb3f29045a086a2a8d41b80a509fa6cc66ddb12d8ba03b5269303e"), looks := true }, kinds := [], alts := [], laidByText := true, laidKinds := [.data, .data, .data, .data, .sentinel, .sentinel, .pinned], laidTests := true, laidLooks := .later }
def RationalOrderUptoCardSaid : Prop := Claim7.holds Tryz.pinned (.plain (OpenSpec.upto rationalOrderSpec)) rationalOrderUptoCard

/-- THE SECOND FORM's CARD OF 'joinlearnlaw02.RationalParts'. -/
def rationalPartsUptoCard : Claim7 := { stood := { row := rationalPartsUptoRow, standIns := [], harness := (true, "1f2050d5b7eb3f29045a086a2a8d41b80a509fa6cc66ddb12d8ba03b5269303e"), looks := true }, kinds := [], alts := [], laidByText := true, laidKinds := [.data, .data, .data, .data, .sentinel, .sentinel, .pinned], laidTests := true, laidLooks := .later }
def RationalPartsUptoCardSaid : Prop := Claim7.holds Tryz.pinned (.plain (OpenSpec.upto rationalPartsSpec)) rationalPartsUptoCard

/-- THE SECOND FORM's CARD OF 'joinlearnlaw02.RationalDot'. -/
def rationalDotUptoCard : Claim7 := { stood := { row := rationalDotUptoRow, standIns := [], harness := (true, "1f2050d5b7eb3f29045a086a2a8d41b80a509fa6cc66ddb12d8ba03b5269303e"), looks := true }, kinds := [], alts := [], laidByText := true, laidKinds := [.data, .data, .data, .data, .sentinel, .sentinel, .pinned], laidTests := true, laidLooks := .later }
def RationalDotUptoCardSaid : Prop := Claim7.holds Tryz.pinned (.plain (OpenSpec.upto rationalDotSpec)) rationalDotUptoCard
end Rows
end Go.Proofs.YtfogkkanifnppaaGreatDoor
