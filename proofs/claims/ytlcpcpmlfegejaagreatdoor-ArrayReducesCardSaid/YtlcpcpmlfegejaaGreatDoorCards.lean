/-
  DERIVED. GIVEN WITH THE SEED: THE CARDS: each row of YtlcpcpmlfegejaaGreatDoorRows.lean that lists a variable, with what it lists TIED to the program's text (the seventh form; the later family's looks); each row that meets fmt, with fmt's text TOLD by the authors' own Lean function (tested against real Go, not proved from fmt's source: count such statements apart). THE CARD IS WHAT COUNTS. Prove the row's statement (the work); the ties are given (YtlcpcpmlfegejaaGreatDoorTie.lean); close each card by the builder's one call (the guide's Derived/Test/ToyasCard.lean, 'card_holds'). Laid BY PROGRAM, IN A SANDBOX (cutbox-door.mjs). By AI agents, Wed Nov 11 2026. No macro, syntax, notation, axiom, sorry.
-/
import Derived.Test.YtlcpcpmlfegejaaGreatDoorRows
import GoSem.ClaimSeven
namespace Go.Proofs.YtlcpcpmlfegejaaGreatDoor
namespace Rows

/-- THE TIED CARD OF 'arrayarchivelaw06.ArrayReduced'. -/
def arrayReducedCard : Claim7 := { stood := { row := arrayReducedRow, standIns := [], harness := (true, "53e7660244a0458f032c54263e7e433de78ec9bd6a820fd8ffb99e9996c9304c"), looks := true }, kinds := [], alts := [], laidByText := true, laidKinds := [.data, .data, .data, .sentinel, .sentinel], laidTests := true, laidLooks := .later }
def ArrayReducedCardSaid : Prop := Claim7.holds Tryz.pinned (.plain (OpenSpec.ofChange arrayReducedSpec)) arrayReducedCard

/-- THE TIED CARD OF 'arrayarchivelaw06.ArrayReduces'. -/
def arrayReducesCard : Claim7 := { stood := { row := arrayReducesRow, standIns := [], harness := (true, "53e7660244a0458f032c54263e7e433de78ec9bd6a820fd8ffb99e9996c9304c"), looks := true }, kinds := [], alts := [], laidByText := true, laidKinds := [.data, .data, .data, .sentinel, .sentinel], laidTests := true, laidLooks := .later }
def ArrayReducesCardSaid : Prop := Claim7.holds Tryz.pinned (.plain (OpenSpec.ofChange arrayReducesSpec)) arrayReducesCard

/-- THE TIED CARD OF 'arrayarchivelaw06.ArrayWindows'. -/
def arrayWindowsCard : Claim7 := { stood := { row := arrayWindowsRow, standIns := [], harness := (true, "53e7660244a0458f032c54263e7e433de78ec9bd6a820fd8ffb99e9996c9304c"), looks := true }, kinds := [], alts := [], laidByText := true, laidKinds := [.data, .data, .data, .sentinel, .sentinel], laidTests := true, laidLooks := .later }
def ArrayWindowsCardSaid : Prop := Claim7.holds Tryz.pinned (.plain (OpenSpec.ofChange arrayWindowsSpec)) arrayWindowsCard

/-- THE TIED CARD OF 'arrayarchivelaw06.ArrayGroups'. -/
def arrayGroupsCard : Claim7 := { stood := { row := arrayGroupsRow, standIns := [], harness := (true, "53e7660244a0458f032c54263e7e433de78ec9bd6a820fd8ffb99e9996c9304c"), looks := true }, kinds := [], alts := [], laidByText := true, laidKinds := [.data, .data, .data, .sentinel, .sentinel], laidTests := true, laidLooks := .later }
def ArrayGroupsCardSaid : Prop := Claim7.holds Tryz.pinned (.plain (OpenSpec.ofChange arrayGroupsSpec)) arrayGroupsCard

/-- THE TIED CARD OF 'arrayarchivelaw06.ArrayTotals'. -/
def arrayTotalsCard : Claim7 := { stood := { row := arrayTotalsRow, standIns := [], harness := (true, "53e7660244a0458f032c54263e7e433de78ec9bd6a820fd8ffb99e9996c9304c"), looks := true }, kinds := [], alts := [], laidByText := true, laidKinds := [.data, .data, .data, .sentinel, .sentinel], laidTests := true, laidLooks := .later }
def ArrayTotalsCardSaid : Prop := Claim7.holds Tryz.pinned (.plain (OpenSpec.ofChange arrayTotalsSpec)) arrayTotalsCard

/-- THE SECOND FORM's CARD OF 'arrayarchivelaw06.ArrayReduced'. -/
def arrayReducedUptoCard : Claim7 := { stood := { row := arrayReducedUptoRow, standIns := [], harness := (true, "53e7660244a0458f032c54263e7e433de78ec9bd6a820fd8ffb99e9996c9304c"), looks := true }, kinds := [], alts := [], laidByText := true, laidKinds := [.data, .data, .data, .sentinel, .sentinel], laidTests := true, laidLooks := .later }
def ArrayReducedUptoCardSaid : Prop := Claim7.holds Tryz.pinned (.plain (OpenSpec.upto arrayReducedSpec)) arrayReducedUptoCard

/-- THE SECOND FORM's CARD OF 'arrayarchivelaw06.ArrayReduces'. -/
def arrayReducesUptoCard : Claim7 := { stood := { row := arrayReducesUptoRow, standIns := [], harness := (true, "53e7660244a0458f032c54263e7e433de78ec9bd6a820fd8ffb99e9996c9304c"), looks := true }, kinds := [], alts := [], laidByText := true, laidKinds := [.data, .data, .data, .sentinel, .sentinel], laidTests := true, laidLooks := .later }
def ArrayReducesUptoCardSaid : Prop := Claim7.holds Tryz.pinned (.plain (OpenSpec.upto arrayReducesSpec)) arrayReducesUptoCard

/-- THE SECOND FORM's CARD OF 'arrayarchivelaw06.ArrayWindows'. -/
def arrayWindowsUptoCard : Claim7 := { stood := { row := arrayWindowsUptoRow, standIns := [], harness := (true, "53e7660244a0458f032c54263e7e433de78ec9bd6a820fd8ffb99e9996c9304c"), looks := true }, kinds := [], alts := [], laidByText := true, laidKinds := [.data, .data, .data, .sentinel, .sentinel], laidTests := true, laidLooks := .later }
def ArrayWindowsUptoCardSaid : Prop := Claim7.holds Tryz.pinned (.plain (OpenSpec.upto arrayWindowsSpec)) arrayWindowsUptoCard

/-- THE SECOND FORM's CARD OF 'arrayarchivelaw06.ArrayGroups'. -/
def arrayGroupsUptoCard : Claim7 := { stood := { row := arrayGroupsUptoRow, standIns := [], harness := (true, "53e7660244a0458f032c54263e7e433de78ec9bd6a820fd8ffb99e9996c9304c"), looks := true }, kinds := [], alts := [], laidByText := true, laidKinds := [.data, .data, .data, .sentinel, .sentinel], laidTests := true, laidLooks := .later }
def ArrayGroupsUptoCardSaid : Prop := Claim7.holds Tryz.pinned (.plain (OpenSpec.upto arrayGroupsSpec)) arrayGroupsUptoCard

/-- THE SECOND FORM's CARD OF 'arrayarchivelaw06.ArrayTotals'. -/
def arrayTotalsUptoCard : Claim7 := { stood := { row := arrayTotalsUptoRow, standIns := [], harness := (true, "53e7660244a0458f032c54263e7e433de78ec9bd6a820fd8ffb99e9996c9304c"), looks := true }, kinds := [], alts := [], laidByText := true, laidKinds := [.data, .data, .data, .sentinel, .sentinel], laidTests := true, laidLooks := .later }
def ArrayTotalsUptoCardSaid : Prop := Claim7.holds Tryz.pinned (.plain (OpenSpec.upto arrayTotalsSpec)) arrayTotalsUptoCard
end Rows
end Go.Proofs.YtlcpcpmlfegejaaGreatDoor
