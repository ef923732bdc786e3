/-
  DERIVED. GIVEN WITH THE SEED: THE CARDS: each row of YthnbocojjllfaaaGreatDoorRows.lean that lists a variable, with what it lists TIED to the program's text (the seventh form; the later family's looks); each row that meets fmt, with fmt's text TOLD by the authors' own Lean function (tested against real Go, not proved from fmt's source: count such statements apart). THE CARD IS WHAT COUNTS. Prove the row's statement (the work); the ties are given (YthnbocojjllfaaaGreatDoorTie.lean); close each card by the builder's one call (the guide's Derived/Test/ToyasCard.lean, 'card_holds'). Laid BY PROGRAM, IN A SANDBOX (cutbox-door.mjs). By AI agents, Wed Nov 11 2026. No macro, syntax, notation, axiom, sorry.
-/
import Derived.Test.YthnbocojjllfaaaGreatDoorRows
import GoSem.ClaimSeven
namespace Go.Proofs.YthnbocojjllfaaaGreatDoor
namespace Rows

/-- THE TIED CARD OF 'joinlearnlaw01.IntegerSquares'. -/
def integerSquaresCard : Claim7 := { stood := { row := integerSquaresRow, standIns := [], harness := (true, "df7282c25c94a1db9b7c3680674461fd8a4fc5269e5aa0487fdcf73abb551575"), looks := true }, kinds := [], alts := [], laidByText := true, laidKinds := [.data, .data, .data, .data, .sentinel, .sentinel, .pinned], laidTests := true, laidLooks := .later }
def IntegerSquaresCardSaid : Prop := Claim7.holds Tryz.pinned (.plain (OpenSpec.ofChange integerSquaresSpec)) integerSquaresCard

/-- THE TIED CARD OF 'joinlearnlaw01.IntegerText'. -/
def integerTextCard : Claim7 := { stood := { row := integerTextRow, standIns := [], harness := (true, "df7282c25c94a1db9b7c3680674461fd8a4fc5269e5aa0487fdcf73abb551575"), looks := true }, kinds := [], alts := [], laidByText := true, laidKinds := [.data, .data, .data, .data, .sentinel, .sentinel, .pinned], laidTests := true, laidLooks := .later }
def IntegerTextCardSaid : Prop := Claim7.holds Tryz.pinned (.plain (OpenSpec.ofChange integerTextSpec)) integerTextCard

/-- THE TIED CARD OF 'joinlearnlaw01.IntegerExact'. -/
def integerExactCard : Claim7 := { stood := { row := integerExactRow, standIns := [], harness := (true, "df7282c25c94a1db9b7c3680674461fd8a4fc5269e5aa0487fdcf73abb551575"), looks := true }, kinds := [], alts := [], laidByText := true, laidKinds := [.data, .data, .data, .data, .sentinel, .sentinel, .pinned], laidTests := true, laidLooks := .later }
def IntegerExactCardSaid : Prop := Claim7.holds Tryz.pinned (.plain (OpenSpec.ofChange integerExactSpec)) integerExactCard

/-- THE TIED CARD OF 'joinlearnlaw01.IntegerLong'. -/
def integerLongCard : Claim7 := { stood := { row := integerLongRow, standIns := [], harness := (true, "df7282c25c94a1db9b7c3680674461fd8a4fc5269e5aa0487fdcf73abb551575"), looks := true }, kinds := [], alts := [], laidByText := true, laidKinds := [.data, .data, .data, .data, .sentinel, .sentinel, .pinned], laidTests := true, laidLooks := .later }
def IntegerLongCardSaid : Prop := Claim7.holds Tryz.pinned (.plain (OpenSpec.ofChange integerLongSpec)) integerLongCard

/-- THE TIED CARD OF 'joinlearnlaw01.IntegerRing'. -/
def integerRingCard : Claim7 := { stood := { row := integerRingRow, standIns := [], harness := (true, "df7282c25c94a1db9b7c3680674461fd8a4fc5269e5aa0487fdcf73abb551575"), looks := true }, kinds := [], alts := [], laidByText := true, laidKinds := [.data, .data, .data, .data, .sentinel, .sentinel, .pinned], laidTests := true, laidLooks := .later }
def IntegerRingCardSaid : Prop := Claim7.holds Tryz.pinned (.plain (OpenSpec.ofChange integerRingSpec)) integerRingCard

/-- THE TIED CARD OF 'joinlearnlaw01.IntegerDivides'. -/
def integerDividesCard : Claim7 := { stood := { row := integerDividesRow, standIns := [], harness := (true, "df7282c25c94a1db9b7c3680674461fd8a4fc5269e5aa0487fdcf73abb551575"), looks := true }, kinds := [], alts := [], laidByText := true, laidKinds := [.data, .data, .data, .data, .sentinel, .sentinel, .pinned], laidTests := true, laidLooks := .later }
def IntegerDividesCardSaid : Prop := Claim7.holds Tryz.pinned (.plain (OpenSpec.ofChange integerDividesSpec)) integerDividesCard

/-- THE TIED CARD OF 'joinlearnlaw01.IntegerOrder'. -/
def integerOrderCard : Claim7 := { stood := { row := integerOrderRow, standIns := [], harness := (true, "df7282c25c94a1db9b7c3680674461fd8a4fc5269e5aa0487fdcf73abb551575"), looks := true }, kinds := [], alts := [], laidByText := true, laidKinds := [.data, .data, .data, .data, .sentinel, .sentinel, .pinned], laidTests := true, laidLooks := .later }
def IntegerOrderCardSaid : Prop := Claim7.holds Tryz.pinned (.plain (OpenSpec.ofChange integerOrderSpec)) integerOrderCard

/-- THE TIED CARD OF 'joinlearnlaw02.RationalTurns'. -/
def rationalTurnsCard : Claim7 := { stood := { row := rationalTurnsRow, standIns := [], harness := (true, "df7282c25c94a1db9b7c3680674461fd8a4fc5269e5aa0487fdcf73abb551575"), looks := true }, kinds := [], alts := [], laidByText := true, laidKinds := [.data, .data, .data, .data, .sentinel, .sentinel, .pinned], laidTests := true, laidLooks := .later }
def RationalTurnsCardSaid : Prop := Claim7.holds Tryz.pinned (.plain (OpenSpec.ofChange rationalTurnsSpec)) rationalTurnsCard

/-- THE TIED CARD OF 'joinlearnlaw02.RationalFloors'. -/
def rationalFloorsCard : Claim7 := { stood := { row := rationalFloorsRow, standIns := [], harness := (true, "df7282c25c94a1db9b7c3680674461fd8a4fc5269e5aa0487fdcf73abb551575"), looks := true }, kinds := [], alts := [], laidByText := true, laidKinds := [.data, .data, .data, .data, .sentinel, .sentinel, .pinned], laidTests := true, laidLooks := .later }
def RationalFloorsCardSaid : Prop := Claim7.holds Tryz.pinned (.plain (OpenSpec.ofChange rationalFloorsSpec)) rationalFloorsCard

/-- THE TIED CARD OF 'joinlearnlaw02.RationalExact'. -/
def rationalExactCard : Claim7 := { stood := { row := rationalExactRow, standIns := [], harness := (true, "df7282c25c94a1db9b7c3680674461fd8a4fc5269e5aa0487fdcf73abb551575"), looks := true }, kinds := [], alts := [], laidByText := true, laidKinds := [.data, .data, .data, .data, .sentinel, .sentinel, .pinned], laidTests := true, laidLooks := .later }
def RationalExactCardSaid : Prop := Claim7.holds Tryz.pinned (.plain (OpenSpec.ofChange rationalExactSpec)) rationalExactCard

/-- THE TIED CARD OF 'joinlearnlaw02.RationalSums'. -/
def rationalSumsCard : Claim7 := { stood := { row := rationalSumsRow, standIns := [], harness := (true, "df7282c25c94a1db9b7c3680674461fd8a4fc5269e5aa0487fdcf73abb551575"), looks := true }, kinds := [], alts := [], laidByText := true, laidKinds := [.data, .data, .data, .data, .sentinel, .sentinel, .pinned], laidTests := true, laidLooks := .later }
def RationalSumsCardSaid : Prop := Claim7.holds Tryz.pinned (.plain (OpenSpec.ofChange rationalSumsSpec)) rationalSumsCard

/-- THE TIED CARD OF 'joinlearnlaw02.RationalField'. -/
def rationalFieldCard : Claim7 := { stood := { row := rationalFieldRow, standIns := [], harness := (true, "df7282c25c94a1db9b7c3680674461fd8a4fc5269e5aa0487fdcf73abb551575"), looks := true }, kinds := [], alts := [], laidByText := true, laidKinds := [.data, .data, .data, .data, .sentinel, .sentinel, .pinned], laidTests := true, laidLooks := .later }
def RationalFieldCardSaid : Prop := Claim7.holds Tryz.pinned (.plain (OpenSpec.ofChange rationalFieldSpec)) rationalFieldCard

/-- THE TIED CARD OF 'joinlearnlaw02.RationalOrder'. -/
def rationalOrderCard : Claim7 := { stood := { row := rationalOrderRow, standIns := [], harness := (true, "df7282c25c94a1db9b7c3680674461fd8a4fc5269e5aa0487fdcf73abb551575"), looks := true }, kinds := [], alts := [], laidByText := true, laidKinds := [.data, .data, .data, .data, .sentinel, .sentinel, .pinned], laidTests := true, laidLooks := .later }
def RationalOrderCardSaid : Prop := Claim7.holds Tryz.pinned (.plain (OpenSpec.ofChange rationalOrderSpec)) rationalOrderCard

/-- THE TIED CARD OF 'joinlearnlaw02.RationalParts'. -/
def rationalPartsCard : Claim7 := { stood := { row := rationalPartsRow, standIns := [], harness := (true, "df7282c25c94a1db9b7c3680674461fd8a4fc5269e5aa0487fdcf73abb551575"), looks := true }, kinds := [], alts := [], laidByText := true, laidKinds := [.data, .data, .data, .data, .sentinel, .sentinel, .pinned], laidTests := true, laidLooks := .later }
def RationalPartsCardSaid : Prop := Claim7.holds Tryz.pinned (.plain (OpenSpec.ofChange rationalPartsSpec)) rationalPartsCard

/-- THE TIED CARD OF 'joinlearnlaw02.RationalDot'. -/
def rationalDotCard : Claim7 := { stood := { row := rationalDotRow, standIns := [], harness := (true, "df7282c25c94a1db9b7c3680674461fd8a4fc5269e5aa0487fdcf73abb551575"), looks := true }, kinds := [], alts := [], laidByText := true, laidKinds := [.data, .data, .data, .data, .sentinel, .sentinel, .pinned], laidTests := true, laidLooks := .later }
def RationalDotCardSaid : Prop := Claim7.holds Tryz.pinned (.plain (OpenSpec.ofChange rationalDotSpec)) rationalDotCard

/-- THE SECOND FORM's CARD OF 'joinlearnlaw01.IntegerSquares'. -/
def integerSquaresUptoCard : Claim7 := { stood := { row := integerSquaresUptoRow, standIns := [], harness := (true, "df7282c25c94a1db9b7c3680674461fd8a4fc5269e5aa0487fdcf73abb551575"), looks := true }, kinds := [], alts := [], laidByText := true, laidKinds := [.data, .data, .data, .data, .sentinel, .sentinel, .pinned], laidTests := true, laidLooks := .later }
def IntegerSquaresUptoCardSaid : Prop := Claim7.holds Tryz.pinned (.plain (OpenSpec.upto integerSquaresSpec)) integerSquaresUptoCard

/-- THE SECOND FORM's CARD OF 'joinlearnlaw01.IntegerText'. -/
def integerTextUptoCard : Claim7 := { stood := { row := integerTextUptoRow, standIns := [], harness := (true, "df7282c25c94a1db9b7c3680674461fd8a4fc5269e5aa0487fdcf73abb551575"), looks := true }, kinds := [], alts := [], laidByText := true, laidKinds := [.data, .data, .data, .data, .sentinel, .sentinel, .pinned], laidTests := true, laidLooks := .later }
def IntegerTextUptoCardSaid : Prop := Claim7.holds Tryz.pinned (.plain (OpenSpec.upto integerTextSpec)) integerTextUptoCard

/-- THE SECOND FORM's CARD OF 'joinlearnlaw01.IntegerExact'. -/
def integerExactUptoCard : Claim7 := { stood := { row := integerExactUptoRow, standIns := [], harness := (true, "df7282c25c94a1db9b7c3680674461fd8a4fc5269e5aa0487fdcf73abb551575"), looks := true }, kinds := [], alts := [], laidByText := true, laidKinds := [.data, .data, .data, .data, .sentinel, .sentinel, .pinned], laidTests := true, laidLooks := .later }
def IntegerExactUptoCardSaid : Prop := Claim7.holds Tryz.pinned (.plain (OpenSpec.upto integerExactSpec)) integerExactUptoCard

/-- THE SECOND FORM's CARD OF 'joinlearnlaw01.IntegerLong'. -/
def integerLongUptoCard : Claim7 := { stood := { row := integerLongUptoRow, standIns := [], harness := (true, "df7282c25c94a1db9b7c3680674461fd8a4fc5269e5aa0487fdcf73abb551575"), looks := true }, kinds := [], alts := [], laidByText := true, laidKinds := [.data, .data, .data, .data, .sentinel, .sentinel, .pinned], laidTests := true, laidLooks := .later }
def IntegerLongUptoCardSaid : Prop := Claim7.holds Tryz.pinned (.plain (OpenSpec.upto integerLongSpec)) integerLongUptoCard

/-- THE SECOND FORM's CARD OF 'joinlearnlaw01.IntegerRing'. -/
def integerRingUptoCard : Claim7 := { stood := { row := integerRingUptoRow, standIns := [], harness := (true, "df7282c25c94a1db9b7c3680674461fd8a4fc5269e5aa0487fdcf73abb551575"), looks := true }, kinds := [], alts := [], laidByText := true, laidKinds := [.data, .data, .data, .data, .sentinel, .sentinel, .pinned], laidTests := true, laidLooks := .later }
def IntegerRingUptoCardSaid : Prop := Claim7.holds Tryz.pinned (.plain (OpenSpec.upto integerRingSpec)) integerRingUptoCard

/-- THE SECOND FORM's CARD OF 'joinlearnlaw01.IntegerDivides'. -/
def integerDividesUptoCard : Claim7 := { stood := { row := integerDividesUptoRow, standIns := [], harness := (true, "df7282c25c94a1db9b7c3680674461fd8a4fc5269e5aa0487fdcf73abb551575"), looks := true }, kinds := [], alts := [], laidByText := true, laidKinds := [.data, .data, .data, .data, .sentinel, .sentinel, .pinned], laidTests := true, laidLooks := .later }
def IntegerDividesUptoCardSaid : Prop := Claim7.holds Tryz.pinned (.plain (OpenSpec.upto integerDividesSpec)) integerDividesUptoCard

/-- THE SECOND FORM's CARD OF 'joinlearnlaw01.IntegerOrder'. -/
def integerOrderUptoCard : Claim7 := { stood := { row := integerOrderUptoRow, standIns := [], harness := (true, "df7282c25c94a1db9b7c3680674461fd8a4fc5269e5aa0487fdcf73abb551575"), looks := true }, kinds := [], alts := [], laidByText := true, laidKinds := [.data, .data, .data, .data, .sentinel, .sentinel, .pinned], laidTests := true, laidLooks := .later }
def IntegerOrderUptoCardSaid : Prop := Claim7.holds Tryz.pinned (.plain (OpenSpec.upto integerOrderSpec)) integerOrderUptoCard

/-- THE SECOND FORM's CARD OF 'joinlearnlaw02.RationalTurns'. -/
def rationalTurnsUptoCard : Claim7 := { stood := { row := rationalTurnsUptoRow, standIns := [], harness := (true, "df7282c25c94a1db9b7c3680674461fd8a4fc5269e5aa0487fdcf73abb551575"), looks := true }, kinds := [], alts := [], laidByText := true, laidKinds := [.data, .data, .data, .data, .sentinel, .sentinel, .pinned], laidTests := true, laidLooks := .later }
def RationalTurnsUptoCardSaid : Prop := Claim7.holds Tryz.pinned (.plain (OpenSpec.upto rationalTurnsSpec)) rationalTurnsUptoCard

/-- THE SECOND FORM's CARD OF 'joinlearnlaw02.RationalFloors'. -/
def rationalFloorsUptoCard : Claim7 := { stood := { row := rationalFloorsUptoRow, standIns := [], harness := (true, "df7282c25c94a1db9b7c3680674461fd8a4fc5269e5aa0487fdcf73abb551575"), looks := true }, kinds := [], alts := [], laidByText := true, laidKinds := [.data, .data, .data, .data, .sentinel, .sentinel, .pinned], laidTests := true, laidLooks := .later }
def RationalFloorsUptoCardSaid : Prop := Claim7.holds Tryz.pinned (.plain (OpenSpec.upto rationalFloorsSpec)) rationalFloorsUptoCard

/-- THE SECOND FORM's CARD OF 'joinlearnlaw02.RationalExact'. -/
def rationalExactUptoCard : Claim7 := { stood := { row := rationalExactUptoRow, standIns := [], harness := (true, "df7282c25c94a1db9b7c3680674461fd8a4fc5269e5aa0487fdcf73abb551575"), looks := true }, kinds := [], alts := [], laidByText := true, laidKinds := [.data, .data, .data, .data, .sentinel, .sentinel, .pinned], laidTests := true, laidLooks := .later }
def RationalExactUptoCardSaid : Prop := Claim7.holds Tryz.pinned (.plain (OpenSpec.upto rationalExactSpec)) rationalExactUptoCard

/-- THE SECOND FORM's CARD OF 'joinlearnlaw02.RationalSums'. -/
def rationalSumsUptoCard : Claim7 := { stood := { row := rationalSumsUptoRow, standIns := [], harness := (true, "df7282c25c94a1db9b7c3680674461fd8a4fc5269e5aa0487fdcf73abb551575"), looks := true }, kinds := [], alts := [], laidByText := true, laidKinds := [.data, .data, .data, .data, .sentinel, .sentinel, .pinned], laidTests := true, laidLooks := .later }
def RationalSumsUptoCardSaid : Prop := Claim7.holds Tryz.pinned (.plain (OpenSpec.upto rationalSumsSpec)) rationalSumsUptoCard

/-- THE SECOND FORM's CARD OF 'joinlearnlaw02.RationalField'. -/
def rationalFieldUptoCard : Claim7 := { stood := { row := rationalFieldUptoRow, standIns := [], harness := (true, "df7282c25c94a1db9b7c3680674461fd8a4fc5269e5aa0487fdcf73abb551575"), looks := true }, kinds := [], alts := [], laidByText := true, laidKinds := [.data, .data, .data, .data, .sentinel, .sentinel, .pinned], laidTests := true, laidLooks := .later }
def RationalFieldUptoCardSaid : Prop := Claim7.holds Tryz.pinned (.plain (OpenSpec.upto rationalFieldSpec)) rationalFieldUptoCard

/-- THE SECOND FORM's CARD OF 'joinlearnlaw02.RationalOrder'. -/
def rationalOrderUptoCard : Claim7 := { stood := { row := rationalOrderUptoRow, standIns := [], harness := (true, "df7282c25c94a1db9b7c3680674461fd8a4fc5269e5aa0487fdcf73abb551575"), looks := true }, kinds := [], alts := [], laidByText := true, laidKinds := [.data, .data, .data, .data, .sentinel, .sentinel, .pinned], laidTests := true, laidLooks := .later }
def RationalOrderUptoCardSaid : Prop := Claim7.holds Tryz.pinned (.plain (OpenSpec.upto rationalOrderSpec)) rationalOrderUptoCard

/-- THE SECOND FORM's CARD OF 'joinlearnlaw02.RationalParts'. -/
def rationalPartsUptoCard : Claim7 := { stood := { row := rationalPartsUptoRow, standIns := [], harness := (true, "df7282c25c94a1db9b7c3680674461fd8a4fc5269e5aa0487fdcf73abb551575"), looks := true }, kinds := [], alts := [], laidByText := true, laidKinds := [.data, .data, .data, .data, .sentinel, .sentinel, .pinned], laidTests := true, laidLooks := .later }
def RationalPartsUptoCardSaid : Prop := Claim7.holds Tryz.pinned (.plain (OpenSpec.upto rationalPartsSpec)) rationalPartsUptoCard

/-- THE SECOND FORM's CARD OF 'joinlearnlaw02.RationalDot'. -/
def rationalDotUptoCard : Claim7 := { stood := { row := rationalDotUptoRow, standIns := [], harness := (true, "df7282c25c94a1db9b7c3680674461fd8a4fc5269e5aa0487fdcf73abb551575"), looks := true }, kinds := [], alts := [], laidByText := true, laidKinds := [.data, .data, .data, .data, .sentinel, .sentinel, .pinned], laidTests := true, laidLooks := .later }
def RationalDotUptoCardSaid : Prop := Claim7.holds Tryz.pinned (.plain (OpenSpec.upto rationalDotSpec)) rationalDotUptoCard
end Rows
end Go.Proofs.YthnbocojjllfaaaGreatDoor
