/-
  DERIVED. GIVEN WITH THE SEED: THE CARDS: each row of YtfjnipkpfbkegaaGreatDoorRows.lean that lists a variable, with what it lists TIED to the program's text (the seventh form; the later family's looks); each row that meets fmt, with fmt's text TOLD by the authors' own Lean function (tested against real Go, not proved from fmt's source: count such statements apart). THE CARD IS WHAT COUNTS. Prove the row's statement (the work); the ties are given (YtfjnipkpfbkegaaGreatDoorTie.lean); close each card by the builder's one call (the guide's Derived/Test/ToyasCard.lean, 'card_holds'). Laid BY PROGRAM, IN A SANDBOX (cutbox-door.mjs). By AI agents, Wed Nov 11 2026. No macro, syntax, notation, axiom, sorry.
-/
import Derived.Test.YtfjnipkpfbkegaaGreatDoorRows
import GoSem.ClaimSeven
namespace Go.Proofs.YtfjnipkpfbkegaaGreatDoor
namespace Rows

/-- THE TIED CARD OF 'arrayarchivelaw01.QuantityReads'. -/
def quantityReadsCard : Claim7 := { stood := { row := quantityReadsRow, standIns := [], harness := (true, "80bef529a85f1e531201c02dcd21bafcbed3c8c98c1c3a49300210dc570425ff"), looks := true }, kinds := [], alts := [], laidByText := true, laidKinds := [.data, .data, .data, .sentinel, .sentinel], laidTests := true, laidLooks := .later }
def QuantityReadsCardSaid : Prop := Claim7.holds Tryz.pinned (.plain (OpenSpec.ofChange quantityReadsSpec)) quantityReadsCard

/-- THE TIED CARD OF 'arrayarchivelaw01.QuantityFormats'. -/
def quantityFormatsCard : Claim7 := { stood := { row := quantityFormatsRow, standIns := [], harness := (true, "80bef529a85f1e531201c02dcd21bafcbed3c8c98c1c3a49300210dc570425ff"), looks := true }, kinds := [], alts := [], laidByText := true, laidKinds := [.data, .data, .data, .sentinel, .sentinel], laidTests := true, laidLooks := .later }
def QuantityFormatsCardSaid : Prop := Claim7.holds Tryz.pinned (.plain (OpenSpec.ofChange quantityFormatsSpec)) quantityFormatsCard

/-- THE SECOND FORM's CARD OF 'arrayarchivelaw01.QuantityReads'. -/
def quantityReadsUptoCard : Claim7 := { stood := { row := quantityReadsUptoRow, standIns := [], harness := (true, "80bef529a85f1e531201c02dcd21bafcbed3c8c98c1c3a49300210dc570425ff"), looks := true }, kinds := [], alts := [], laidByText := true, laidKinds := [.data, .data, .data, .sentinel, .sentinel], laidTests := true, laidLooks := .later }
def QuantityReadsUptoCardSaid : Prop := Claim7.holds Tryz.pinned (.plain (OpenSpec.upto quantityReadsSpec)) quantityReadsUptoCard

/-- THE SECOND FORM's CARD OF 'arrayarchivelaw01.QuantityFormats'. -/
def quantityFormatsUptoCard : Claim7 := { stood := { row := quantityFormatsUptoRow, standIns := [], harness := (true, "80bef529a85f1e531201c02dcd21bafcbed3c8c98c1c3a49300210dc570425ff"), looks := true }, kinds := [], alts := [], laidByText := true, laidKinds := [.data, .data, .data, .sentinel, .sentinel], laidTests := true, laidLooks := .later }
def QuantityFormatsUptoCardSaid : Prop := Claim7.holds Tryz.pinned (.plain (OpenSpec.upto quantityFormatsSpec)) quantityFormatsUptoCard
end Rows
end Go.Proofs.YtfjnipkpfbkegaaGreatDoor
