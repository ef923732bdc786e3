/-
  DERIVED. GIVEN WITH THE SEED: THE CARDS: each row of YtjghgbfagjhdgaaGreatDoorRows.lean that lists a variable, with what it lists TIED to the program's text (the seventh form; the later family's looks); each row that meets fmt, with fmt's text TOLD by the authors' own Lean function (tested against real Go, not proved from fmt's source: count such statements apart). THE CARD IS WHAT COUNTS. Prove the row's statement (the work); the ties are given (YtjghgbfagjhdgaaGreatDoorTie.lean); close each card by the builder's one call (the guide's Derived/Test/ToyasCard.lean, 'card_holds'). Laid BY PROGRAM, IN A SANDBOX (cutbox-door.mjs). By AI agents, Wed Nov 11 2026. No macro, syntax, notation, axiom, sorry.
-/
import Derived.Test.YtjghgbfagjhdgaaGreatDoorRows
import GoSem.ClaimSeven
namespace Go.Proofs.YtjghgbfagjhdgaaGreatDoor
namespace Rows

/-- THE TIED CARD OF 'joinlearnlaw03.MatrixDeterminant'. -/
def matrixDeterminantCard : Claim7 := { stood := { row := matrixDeterminantRow, standIns := [], harness := (true, "538a8c26e8f3267355fcbd84895c0e41373f9275fbaa329a46fd5a3a5754c8b6"), looks := true }, kinds := [], alts := [], laidByText := true, laidKinds := [.data, .data, .data, .data, .sentinel, .sentinel, .pinned], laidTests := true, laidLooks := .later }
def MatrixDeterminantCardSaid : Prop := Claim7.holds Tryz.pinned (.plain (OpenSpec.ofChange matrixDeterminantSpec)) matrixDeterminantCard

/-- THE TIED CARD OF 'joinlearnlaw03.MatrixTransposed'. -/
def matrixTransposedCard : Claim7 := { stood := { row := matrixTransposedRow, standIns := [], harness := (true, "538a8c26e8f3267355fcbd84895c0e41373f9275fbaa329a46fd5a3a5754c8b6"), looks := true }, kinds := [], alts := [], laidByText := true, laidKinds := [.data, .data, .data, .data, .sentinel, .sentinel, .pinned], laidTests := true, laidLooks := .later }
def MatrixTransposedCardSaid : Prop := Claim7.holds Tryz.pinned (.plain (OpenSpec.ofChange matrixTransposedSpec)) matrixTransposedCard

/-- THE TIED CARD OF 'joinlearnlaw03.MatrixInverse'. -/
def matrixInverseCard : Claim7 := { stood := { row := matrixInverseRow, standIns := [], harness := (true, "538a8c26e8f3267355fcbd84895c0e41373f9275fbaa329a46fd5a3a5754c8b6"), looks := true }, kinds := [], alts := [], laidByText := true, laidKinds := [.data, .data, .data, .data, .sentinel, .sentinel, .pinned], laidTests := true, laidLooks := .later }
def MatrixInverseCardSaid : Prop := Claim7.holds Tryz.pinned (.plain (OpenSpec.ofChange matrixInverseSpec)) matrixInverseCard

/-- THE TIED CARD OF 'joinlearnlaw03.MatrixProducts'. -/
def matrixProductsCard : Claim7 := { stood := { row := matrixProductsRow, standIns := [], harness := (true, "538a8c26e8f3267355fcbd84895c0e41373f9275fbaa329a46fd5a3a5754c8b6"), looks := true }, kinds := [], alts := [], laidByText := true, laidKinds := [.data, .data, .data, .data, .sentinel, .sentinel, .pinned], laidTests := true, laidLooks := .later }
def MatrixProductsCardSaid : Prop := Claim7.holds Tryz.pinned (.plain (OpenSpec.ofChange matrixProductsSpec)) matrixProductsCard

/-- THE TIED CARD OF 'joinlearnlaw03.MatrixLinear'. -/
def matrixLinearCard : Claim7 := { stood := { row := matrixLinearRow, standIns := [], harness := (true, "538a8c26e8f3267355fcbd84895c0e41373f9275fbaa329a46fd5a3a5754c8b6"), looks := true }, kinds := [], alts := [], laidByText := true, laidKinds := [.data, .data, .data, .data, .sentinel, .sentinel, .pinned], laidTests := true, laidLooks := .later }
def MatrixLinearCardSaid : Prop := Claim7.holds Tryz.pinned (.plain (OpenSpec.ofChange matrixLinearSpec)) matrixLinearCard

/-- THE TIED CARD OF 'joinlearnlaw05.SchemaOrder'. -/
def schemaOrderCard : Claim7 := { stood := { row := schemaOrderRow, standIns := [], harness := (true, "538a8c26e8f3267355fcbd84895c0e41373f9275fbaa329a46fd5a3a5754c8b6"), looks := true }, kinds := [], alts := [], laidByText := true, laidKinds := [.data, .data, .data, .sentinel, .sentinel], laidTests := true, laidLooks := .later }
def SchemaOrderCardSaid : Prop := Claim7.holds Tryz.pinned (.plain (OpenSpec.ofChange schemaOrderSpec)) schemaOrderCard

/-- THE TIED CARD OF 'joinlearnlaw05.SchemaLimits'. -/
def schemaLimitsCard : Claim7 := { stood := { row := schemaLimitsRow, standIns := [], harness := (true, "538a8c26e8f3267355fcbd84895c0e41373f9275fbaa329a46fd5a3a5754c8b6"), looks := true }, kinds := [], alts := [], laidByText := true, laidKinds := [.data, .data, .data, .sentinel, .sentinel], laidTests := true, laidLooks := .later }
def SchemaLimitsCardSaid : Prop := Claim7.holds Tryz.pinned (.plain (OpenSpec.ofChange schemaLimitsSpec)) schemaLimitsCard

/-- THE SECOND FORM's CARD OF 'joinlearnlaw03.MatrixDeterminant'. -/
def matrixDeterminantUptoCard : Claim7 := { stood := { row := matrixDeterminantUptoRow, standIns := [], harness := (true, "538a8c26e8f3267355fcbd84895c0e41373f9275fbaa329a46fd5a3a5754c8b6"), looks := true }, kinds := [], alts := [], laidByText := true, laidKinds := [.data, .data, .data, .data, .sentinel, .sentinel, .pinned], laidTests := true, laidLooks := .later }
def MatrixDeterminantUptoCardSaid : Prop := Claim7.holds Tryz.pinned (.plain (OpenSpec.upto matrixDeterminantSpec)) matrixDeterminantUptoCard

/-- THE SECOND FORM's CARD OF 'joinlearnlaw03.MatrixTransposed'. -/
def matrixTransposedUptoCard : Claim7 := { stood := { row := matrixTransposedUptoRow, standIns := [], harness := (true, "538a8c26e8f3267355fcbd84895c0e41373f9275fbaa329a46fd5a3a5754c8b6"), looks := true }, kinds := [], alts := [], laidByText := true, laidKinds := [.data, .data, .data, .data, .sentinel, .sentinel, .pinned], laidTests := true, laidLooks := .later }
def MatrixTransposedUptoCardSaid : Prop := Claim7.holds Tryz.pinned (.plain (OpenSpec.upto matrixTransposedSpec)) matrixTransposedUptoCard

/-- THE SECOND FORM's CARD OF 'joinlearnlaw03.MatrixInverse'. -/
def matrixInverseUptoCard : Claim7 := { stood := { row := matrixInverseUptoRow, standIns := [], harness := (true, "538a8c26e8f3267355fcbd84895c0e41373f9275fbaa329a46fd5a3a5754c8b6"), looks := true }, kinds := [], alts := [], laidByText := true, laidKinds := [.data, .data, .data, .data, .sentinel, .sentinel, .pinned], laidTests := true, laidLooks := .later }
def MatrixInverseUptoCardSaid : Prop := Claim7.holds Tryz.pinned (.plain (OpenSpec.upto matrixInverseSpec)) matrixInverseUptoCard

/-- THE SECOND FORM's CARD OF 'joinlearnlaw03.MatrixProducts'. -/
def matrixProductsUptoCard : Claim7 := { stood := { row := matrixProductsUptoRow, standIns := [], harness := (true, "538a8c26e8f3267355fcbd84895c0e41373f9275fbaa329a46fd5a3a5754c8b6"), looks := true }, kinds := [], alts := [], laidByText := true, laidKinds := [.data, .data, .data, .data, .sentinel, .sentinel, .pinned], laidTests := true, laidLooks := .later }
def MatrixProductsUptoCardSaid : Prop := Claim7.holds Tryz.pinned (.plain (OpenSpec.upto matrixProductsSpec)) matrixProductsUptoCard

/-- THE SECOND FORM's CARD OF 'joinlearnlaw03.MatrixLinear'. -/
def matrixLinearUptoCard : Claim7 := { stood := { row := matrixLinearUptoRow, standIns := [], harness := (true, "538a8c26e8f3267355fcbd84895c0e41373f9275fbaa329a46fd5a3a5754c8b6"), looks := true }, kinds := [], alts := [], laidByText := true, laidKinds := [.data, .data, .data, .data, .sentinel, .sentinel, .pinned], laidTests := true, laidLooks := .later }
def MatrixLinearUptoCardSaid : Prop := Claim7.holds Tryz.pinned (.plain (OpenSpec.upto matrixLinearSpec)) matrixLinearUptoCard

/-- THE SECOND FORM's CARD OF 'joinlearnlaw05.SchemaOrder'. -/
def schemaOrderUptoCard : Claim7 := { stood := { row := schemaOrderUptoRow, standIns := [], harness := (true, "538a8c26e8f3267355fcbd84895c0e41373f9275fbaa329a46fd5a3a5754c8b6"), looks := true }, kinds := [], alts := [], laidByText := true, laidKinds := [.data, .data, .data, .sentinel, .sentinel], laidTests := true, laidLooks := .later }
def SchemaOrderUptoCardSaid : Prop := Claim7.holds Tryz.pinned (.plain (OpenSpec.upto schemaOrderSpec)) schemaOrderUptoCard

/-- THE SECOND FORM's CARD OF 'joinlearnlaw05.SchemaLimits'. -/
def schemaLimitsUptoCard : Claim7 := { stood := { row := schemaLimitsUptoRow, standIns := [], harness := (true, "538a8c26e8f3267355fcbd84895c0e41373f9275fbaa329a46fd5a3a5754c8b6"), looks := true }, kinds := [], alts := [], laidByText := true, laidKinds := [.data, .data, .data, .sentinel, .sentinel], laidTests := true, laidLooks := .later }
def SchemaLimitsUptoCardSaid : Prop := Claim7.holds Tryz.pinned (.plain (OpenSpec.upto schemaLimitsSpec)) schemaLimitsUptoCard
end Rows
end Go.Proofs.YtjghgbfagjhdgaaGreatDoor
