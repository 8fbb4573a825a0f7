/-
  DERIVED. GIVEN WITH THE SEED: THE CARDS: each row of YtgepehlpjpccaaaGreatDoorRows.lean that lists a variable, with what it lists TIED to the program's text (the seventh form; the later family's looks); each row that meets fmt, with fmt's text TOLD by the authors' own Lean function (tested against real Go, not proved from fmt's source: count such statements apart). THE CARD IS WHAT COUNTS. Prove the row's statement (the work); the ties are given (YtgepehlpjpccaaaGreatDoorTie.lean); close each card by the builder's one call (the guide's Derived/Test/ToyasCard.lean, 'card_holds'). Laid BY PROGRAM, IN A SANDBOX (cutbox-door.mjs). By AI agents, Wed Nov 11 2026. No macro, syntax, notation, axiom, sorry.
-/
import Derived.Test.YtgepehlpjpccaaaGreatDoorRows
import GoSem.ClaimSeven
namespace Go.Proofs.YtgepehlpjpccaaaGreatDoor
namespace Rows

/-- THE TIED CARD OF 'arrayarchivelaw04.CodecValid'. -/
def codecValidCard : Claim7 := { stood := { row := codecValidRow, standIns := [], harness := (true, "f96e80987620e9ff1ddfa66c97a9eda8249e7684a8a21b50c673e038d12701d1"), looks := true }, kinds := [], alts := [], laidByText := true, laidKinds := [.data, .data, .data, .sentinel, .sentinel], laidTests := true, laidLooks := .later }
def CodecValidCardSaid : Prop := Claim7.holds Tryz.pinned (.plain (OpenSpec.ofChange codecValidSpec)) codecValidCard

/-- THE TIED CARD OF 'arrayarchivelaw04.CodecRounds'. -/
def codecRoundsCard : Claim7 := { stood := { row := codecRoundsRow, standIns := [], harness := (true, "f96e80987620e9ff1ddfa66c97a9eda8249e7684a8a21b50c673e038d12701d1"), looks := true }, kinds := [], alts := [], laidByText := true, laidKinds := [.data, .data, .data, .sentinel, .sentinel], laidTests := true, laidLooks := .later }
def CodecRoundsCardSaid : Prop := Claim7.holds Tryz.pinned (.plain (OpenSpec.ofChange codecRoundsSpec)) codecRoundsCard

/-- THE TIED CARD OF 'arrayarchivelaw04.CodecEncodes'. -/
def codecEncodesCard : Claim7 := { stood := { row := codecEncodesRow, standIns := [], harness := (true, "f96e80987620e9ff1ddfa66c97a9eda8249e7684a8a21b50c673e038d12701d1"), looks := true }, kinds := [], alts := [], laidByText := true, laidKinds := [.data, .data, .data, .sentinel, .sentinel], laidTests := true, laidLooks := .later }
def CodecEncodesCardSaid : Prop := Claim7.holds Tryz.pinned (.plain (OpenSpec.ofChange codecEncodesSpec)) codecEncodesCard

/-- THE TIED CARD OF 'arrayarchivelaw04.CodecDecodes'. -/
def codecDecodesCard : Claim7 := { stood := { row := codecDecodesRow, standIns := [], harness := (true, "f96e80987620e9ff1ddfa66c97a9eda8249e7684a8a21b50c673e038d12701d1"), looks := true }, kinds := [], alts := [], laidByText := true, laidKinds := [.data, .data, .data, .sentinel, .sentinel], laidTests := true, laidLooks := .later }
def CodecDecodesCardSaid : Prop := Claim7.holds Tryz.pinned (.plain (OpenSpec.ofChange codecDecodesSpec)) codecDecodesCard

/-- THE TIED CARD OF 'arrayarchivelaw04.CodecDamages'. -/
def codecDamagesCard : Claim7 := { stood := { row := codecDamagesRow, standIns := [], harness := (true, "f96e80987620e9ff1ddfa66c97a9eda8249e7684a8a21b50c673e038d12701d1"), looks := true }, kinds := [], alts := [], laidByText := true, laidKinds := [.data, .data, .data, .sentinel, .sentinel], laidTests := true, laidLooks := .later }
def CodecDamagesCardSaid : Prop := Claim7.holds Tryz.pinned (.plain (OpenSpec.ofChange codecDamagesSpec)) codecDamagesCard

/-- THE TIED CARD OF 'arrayarchivetop.TopLoss'. -/
def topLossCard : Claim7 := { stood := { row := topLossRow, standIns := [], harness := (true, "f96e80987620e9ff1ddfa66c97a9eda8249e7684a8a21b50c673e038d12701d1"), looks := true }, kinds := [], alts := [], laidByText := true, laidKinds := [.data, .data, .data, .sentinel, .sentinel], laidTests := true, laidLooks := .later }
def TopLossCardSaid : Prop := Claim7.holds Tryz.pinned (.plain (OpenSpec.ofChange topLossSpec)) topLossCard

/-- THE SECOND FORM's CARD OF 'arrayarchivelaw04.CodecValid'. -/
def codecValidUptoCard : Claim7 := { stood := { row := codecValidUptoRow, standIns := [], harness := (true, "f96e80987620e9ff1ddfa66c97a9eda8249e7684a8a21b50c673e038d12701d1"), looks := true }, kinds := [], alts := [], laidByText := true, laidKinds := [.data, .data, .data, .sentinel, .sentinel], laidTests := true, laidLooks := .later }
def CodecValidUptoCardSaid : Prop := Claim7.holds Tryz.pinned (.plain (OpenSpec.upto codecValidSpec)) codecValidUptoCard

/-- THE SECOND FORM's CARD OF 'arrayarchivelaw04.CodecRounds'. -/
def codecRoundsUptoCard : Claim7 := { stood := { row := codecRoundsUptoRow, standIns := [], harness := (true, "f96e80987620e9ff1ddfa66c97a9eda8249e7684a8a21b50c673e038d12701d1"), looks := true }, kinds := [], alts := [], laidByText := true, laidKinds := [.data, .data, .data, .sentinel, .sentinel], laidTests := true, laidLooks := .later }
def CodecRoundsUptoCardSaid : Prop := Claim7.holds Tryz.pinned (.plain (OpenSpec.upto codecRoundsSpec)) codecRoundsUptoCard

/-- THE SECOND FORM's CARD OF 'arrayarchivelaw04.CodecEncodes'. -/
def codecEncodesUptoCard : Claim7 := { stood := { row := codecEncodesUptoRow, standIns := [], harness := (true, "f96e80987620e9ff1ddfa66c97a9eda8249e7684a8a21b50c673e038d12701d1"), looks := true }, kinds := [], alts := [], laidByText := true, laidKinds := [.data, .data, .data, .sentinel, .sentinel], laidTests := true, laidLooks := .later }
def CodecEncodesUptoCardSaid : Prop := Claim7.holds Tryz.pinned (.plain (OpenSpec.upto codecEncodesSpec)) codecEncodesUptoCard

/-- THE SECOND FORM's CARD OF 'arrayarchivelaw04.CodecDecodes'. -/
def codecDecodesUptoCard : Claim7 := { stood := { row := codecDecodesUptoRow, standIns := [], harness := (true, "f96e80987620e9ff1ddfa66c97a9eda8249e7684a8a21b50c673e038d12701d1"), looks := true }, kinds := [], alts := [], laidByText := true, laidKinds := [.data, .data, .data, .sentinel, .sentinel], laidTests := true, laidLooks := .later }
def CodecDecodesUptoCardSaid : Prop := Claim7.holds Tryz.pinned (.plain (OpenSpec.upto codecDecodesSpec)) codecDecodesUptoCard

/-- THE SECOND FORM's CARD OF 'arrayarchivelaw04.CodecDamages'. -/
def codecDamagesUptoCard : Claim7 := { stood := { row := codecDamagesUptoRow, standIns := [], harness := (true, "f96e80987620e9ff1ddfa66c97a9eda8249e7684a8a21b50c673e038d12701d1"), looks := true }, kinds := [], alts := [], laidByText := true, laidKinds := [.data, .data, .data, .sentinel, .sentinel], laidTests := true, laidLooks := .later }
def CodecDamagesUptoCardSaid : Prop := Claim7.holds Tryz.pinned (.plain (OpenSpec.upto codecDamagesSpec)) codecDamagesUptoCard

/-- THE SECOND FORM's CARD OF 'arrayarchivetop.TopLoss'. -/
def topLossUptoCard : Claim7 := { stood := { row := topLossUptoRow, standIns := [], harness := (true, "f96e80987620e9ff1ddfa66c97a9eda8249e7684a8a21b50c673e038d12701d1"), looks := true }, kinds := [], alts := [], laidByText := true, laidKinds := [.data, .data, .data, .sentinel, .sentinel], laidTests := true, laidLooks := .later }
def TopLossUptoCardSaid : Prop := Claim7.holds Tryz.pinned (.plain (OpenSpec.upto topLossSpec)) topLossUptoCard
end Rows
end Go.Proofs.YtgepehlpjpccaaaGreatDoor
