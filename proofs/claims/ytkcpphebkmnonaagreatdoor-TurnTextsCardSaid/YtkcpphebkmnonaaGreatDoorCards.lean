/-
  DERIVED. GIVEN WITH THE SEED: THE CARDS: each row of YtkcpphebkmnonaaGreatDoorRows.lean that lists a variable, with what it lists TIED to the program's text (the seventh form; the later family's looks); each row that meets fmt, with fmt's text TOLD by the authors' own Lean function (tested against real Go, not proved from fmt's source: count such statements apart). THE CARD IS WHAT COUNTS. Prove the row's statement (the work); the ties are given (YtkcpphebkmnonaaGreatDoorTie.lean); close each card by the builder's one call (the guide's Derived/Test/ToyasCard.lean, 'card_holds'). Laid BY PROGRAM, IN A SANDBOX (cutbox-door.mjs). By AI agents, Wed Nov 11 2026. No macro, syntax, notation, axiom, sorry.
-/
import Derived.Test.YtkcpphebkmnonaaGreatDoorRows
import GoSem.ClaimSeven
namespace Go.Proofs.YtkcpphebkmnonaaGreatDoor
namespace Rows

/-- THE TIED CARD OF 'linkworklaw12.TurnParts'. -/
def turnPartsCard : Claim7 := { stood := { row := turnPartsRow, standIns := [], harness := (true, "54647677e5b07463aec383f637253c77616f0b3cbd219d4358e01fe812b2c0f9"), looks := true }, kinds := [], alts := [], laidByText := true, laidKinds := [.data, .data, .data], laidTests := true, laidLooks := .later }
def TurnPartsCardSaid : Prop := Claim7.holds Tryz.pinned (.plain (OpenSpec.ofChange turnPartsSpec)) turnPartsCard

/-- THE TIED CARD OF 'linkworklaw12.TurnMakes'. -/
def turnMakesCard : Claim7 := { stood := { row := turnMakesRow, standIns := [], harness := (true, "54647677e5b07463aec383f637253c77616f0b3cbd219d4358e01fe812b2c0f9"), looks := true }, kinds := [], alts := [], laidByText := true, laidKinds := [.data], laidTests := true, laidLooks := .later }
def TurnMakesCardSaid : Prop := Claim7.holds Tryz.pinned (.plain (OpenSpec.ofChange turnMakesSpec)) turnMakesCard

/-- THE TIED CARD OF 'linkworklaw12.TurnPairs'. -/
def turnPairsCard : Claim7 := { stood := { row := turnPairsRow, standIns := [], harness := (true, "54647677e5b07463aec383f637253c77616f0b3cbd219d4358e01fe812b2c0f9"), looks := true }, kinds := [], alts := [], laidByText := true, laidKinds := [.data], laidTests := true, laidLooks := .later }
def TurnPairsCardSaid : Prop := Claim7.holds Tryz.pinned (.plain (OpenSpec.ofChange turnPairsSpec)) turnPairsCard

/-- THE TIED CARD OF 'linkworklaw12.TurnArcs'. -/
def turnArcsCard : Claim7 := { stood := { row := turnArcsRow, standIns := [], harness := (true, "54647677e5b07463aec383f637253c77616f0b3cbd219d4358e01fe812b2c0f9"), looks := true }, kinds := [], alts := [], laidByText := true, laidKinds := [.data], laidTests := true, laidLooks := .later }
def TurnArcsCardSaid : Prop := Claim7.holds Tryz.pinned (.plain (OpenSpec.ofChange turnArcsSpec)) turnArcsCard

/-- THE TIED CARD OF 'linkworklaw12.TurnGroup'. -/
def turnGroupCard : Claim7 := { stood := { row := turnGroupRow, standIns := [], harness := (true, "54647677e5b07463aec383f637253c77616f0b3cbd219d4358e01fe812b2c0f9"), looks := true }, kinds := [], alts := [], laidByText := true, laidKinds := [.data], laidTests := true, laidLooks := .later }
def TurnGroupCardSaid : Prop := Claim7.holds Tryz.pinned (.plain (OpenSpec.ofChange turnGroupSpec)) turnGroupCard

/-- THE TIED CARD OF 'linkworklaw12.TurnApplies'. -/
def turnAppliesCard : Claim7 := { stood := { row := turnAppliesRow, standIns := [], harness := (true, "54647677e5b07463aec383f637253c77616f0b3cbd219d4358e01fe812b2c0f9"), looks := true }, kinds := [], alts := [], laidByText := true, laidKinds := [.data], laidTests := true, laidLooks := .later }
def TurnAppliesCardSaid : Prop := Claim7.holds Tryz.pinned (.plain (OpenSpec.ofChange turnAppliesSpec)) turnAppliesCard

/-- THE TIED CARD OF 'linkworklaw12.TurnOrder'. -/
def turnOrderCard : Claim7 := { stood := { row := turnOrderRow, standIns := [], harness := (true, "54647677e5b07463aec383f637253c77616f0b3cbd219d4358e01fe812b2c0f9"), looks := true }, kinds := [], alts := [], laidByText := true, laidKinds := [.data], laidTests := true, laidLooks := .later }
def TurnOrderCardSaid : Prop := Claim7.holds Tryz.pinned (.plain (OpenSpec.ofChange turnOrderSpec)) turnOrderCard

/-- THE TIED CARD OF 'linkworklaw12.TurnTexts'. -/
def turnTextsCard : Claim7 := { stood := { row := turnTextsRow, standIns := [], harness := (true, "54647677e5b07463aec383f637253c77616f0b3cbd219d4358e01fe812b2c0f9"), looks := true }, kinds := [], alts := [], laidByText := true, laidKinds := [.data, .data, .data], laidTests := true, laidLooks := .later }
def TurnTextsCardSaid : Prop := Claim7.holds Tryz.pinned (.plain (OpenSpec.ofChange turnTextsSpec)) turnTextsCard

/-- THE SECOND FORM's CARD OF 'linkworklaw12.TurnParts'. -/
def turnPartsUptoCard : Claim7 := { stood := { row := turnPartsUptoRow, standIns := [], harness := (true, "54647677e5b07463aec383f637253c77616f0b3cbd219d4358e01fe812b2c0f9"), looks := true }, kinds := [], alts := [], laidByText := true, laidKinds := [.data, .data, .data], laidTests := true, laidLooks := .later }
def TurnPartsUptoCardSaid : Prop := Claim7.holds Tryz.pinned (.plain (OpenSpec.upto turnPartsSpec)) turnPartsUptoCard

/-- THE SECOND FORM's CARD OF 'linkworklaw12.TurnMakes'. -/
def turnMakesUptoCard : Claim7 := { stood := { row := turnMakesUptoRow, standIns := [], harness := (true, "54647677e5b07463aec383f637253c77616f0b3cbd219d4358e01fe812b2c0f9"), looks := true }, kinds := [], alts := [], laidByText := true, laidKinds := [.data], laidTests := true, laidLooks := .later }
def TurnMakesUptoCardSaid : Prop := Claim7.holds Tryz.pinned (.plain (OpenSpec.upto turnMakesSpec)) turnMakesUptoCard

/-- THE SECOND FORM's CARD OF 'linkworklaw12.TurnPairs'. -/
def turnPairsUptoCard : Claim7 := { stood := { row := turnPairsUptoRow, standIns := [], harness := (true, "54647677e5b07463aec383f637253c77616f0b3cbd219d4358e01fe812b2c0f9"), looks := true }, kinds := [], alts := [], laidByText := true, laidKinds := [.data], laidTests := true, laidLooks := .later }
def TurnPairsUptoCardSaid : Prop := Claim7.holds Tryz.pinned (.plain (OpenSpec.upto turnPairsSpec)) turnPairsUptoCard

/-- THE SECOND FORM's CARD OF 'linkworklaw12.TurnArcs'. -/
def turnArcsUptoCard : Claim7 := { stood := { row := turnArcsUptoRow, standIns := [], harness := (true, "54647677e5b07463aec383f637253c77616f0b3cbd219d4358e01fe812b2c0f9"), looks := true }, kinds := [], alts := [], laidByText := true, laidKinds := [.data], laidTests := true, laidLooks := .later }
def TurnArcsUptoCardSaid : Prop := Claim7.holds Tryz.pinned (.plain (OpenSpec.upto turnArcsSpec)) turnArcsUptoCard

/-- THE SECOND FORM's CARD OF 'linkworklaw12.TurnGroup'. -/
def turnGroupUptoCard : Claim7 := { stood := { row := turnGroupUptoRow, standIns := [], harness := (true, "54647677e5b07463aec383f637253c77616f0b3cbd219d4358e01fe812b2c0f9"), looks := true }, kinds := [], alts := [], laidByText := true, laidKinds := [.data], laidTests := true, laidLooks := .later }
def TurnGroupUptoCardSaid : Prop := Claim7.holds Tryz.pinned (.plain (OpenSpec.upto turnGroupSpec)) turnGroupUptoCard

/-- THE SECOND FORM's CARD OF 'linkworklaw12.TurnApplies'. -/
def turnAppliesUptoCard : Claim7 := { stood := { row := turnAppliesUptoRow, standIns := [], harness := (true, "54647677e5b07463aec383f637253c77616f0b3cbd219d4358e01fe812b2c0f9"), looks := true }, kinds := [], alts := [], laidByText := true, laidKinds := [.data], laidTests := true, laidLooks := .later }
def TurnAppliesUptoCardSaid : Prop := Claim7.holds Tryz.pinned (.plain (OpenSpec.upto turnAppliesSpec)) turnAppliesUptoCard

/-- THE SECOND FORM's CARD OF 'linkworklaw12.TurnOrder'. -/
def turnOrderUptoCard : Claim7 := { stood := { row := turnOrderUptoRow, standIns := [], harness := (true, "54647677e5b07463aec383f637253c77616f0b3cbd219d4358e01fe812b2c0f9"), looks := true }, kinds := [], alts := [], laidByText := true, laidKinds := [.data], laidTests := true, laidLooks := .later }
def TurnOrderUptoCardSaid : Prop := Claim7.holds Tryz.pinned (.plain (OpenSpec.upto turnOrderSpec)) turnOrderUptoCard

/-- THE SECOND FORM's CARD OF 'linkworklaw12.TurnTexts'. -/
def turnTextsUptoCard : Claim7 := { stood := { row := turnTextsUptoRow, standIns := [], harness := (true, "54647677e5b07463aec383f637253c77616f0b3cbd219d4358e01fe812b2c0f9"), looks := true }, kinds := [], alts := [], laidByText := true, laidKinds := [.data, .data, .data], laidTests := true, laidLooks := .later }
def TurnTextsUptoCardSaid : Prop := Claim7.holds Tryz.pinned (.plain (OpenSpec.upto turnTextsSpec)) turnTextsUptoCard
end Rows
end Go.Proofs.YtkcpphebkmnonaaGreatDoor
