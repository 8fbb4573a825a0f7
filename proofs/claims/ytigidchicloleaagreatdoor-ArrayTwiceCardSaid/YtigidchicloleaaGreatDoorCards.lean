/-
  DERIVED. GIVEN WITH THE SEED: THE CARDS: each row of YtigidchicloleaaGreatDoorRows.lean that lists a variable, with what it lists TIED to the program's text (the seventh form; the later family's looks); each row that meets fmt, with fmt's text TOLD by the authors' own Lean function (tested against real Go, not proved from fmt's source: count such statements apart). THE CARD IS WHAT COUNTS. Prove the row's statement (the work); the ties are given (YtigidchicloleaaGreatDoorTie.lean); close each card by the builder's one call (the guide's Derived/Test/ToyasCard.lean, 'card_holds'). Laid BY PROGRAM, IN A SANDBOX (cutbox-door.mjs). By AI agents, Wed Nov 11 2026. No macro, syntax, notation, axiom, sorry.
-/
import Derived.Test.YtigidchicloleaaGreatDoorRows
import GoSem.ClaimSeven
namespace Go.Proofs.YtigidchicloleaaGreatDoor
namespace Rows

/-- THE TIED CARD OF 'arrayarchivelaw06.ArrayValid'. -/
def arrayValidCard : Claim7 := { stood := { row := arrayValidRow, standIns := [], harness := (true, "baceacce3dc5fea90d086edf547f712c6df4315b4946d22902daaa4fd184b85a"), looks := true }, kinds := [], alts := [], laidByText := true, laidKinds := [.data, .data, .data, .sentinel, .sentinel], laidTests := true, laidLooks := .later }
def ArrayValidCardSaid : Prop := Claim7.holds Tryz.pinned (.plain (OpenSpec.ofChange arrayValidSpec)) arrayValidCard

/-- THE TIED CARD OF 'arrayarchivelaw06.ArraySlabs'. -/
def arraySlabsCard : Claim7 := { stood := { row := arraySlabsRow, standIns := [], harness := (true, "baceacce3dc5fea90d086edf547f712c6df4315b4946d22902daaa4fd184b85a"), looks := true }, kinds := [], alts := [], laidByText := true, laidKinds := [.data, .data, .data, .sentinel, .sentinel], laidTests := true, laidLooks := .later }
def ArraySlabsCardSaid : Prop := Claim7.holds Tryz.pinned (.plain (OpenSpec.ofChange arraySlabsSpec)) arraySlabsCard

/-- THE TIED CARD OF 'arrayarchivelaw06.ArrayResizes'. -/
def arrayResizesCard : Claim7 := { stood := { row := arrayResizesRow, standIns := [], harness := (true, "baceacce3dc5fea90d086edf547f712c6df4315b4946d22902daaa4fd184b85a"), looks := true }, kinds := [], alts := [], laidByText := true, laidKinds := [.data, .data, .data, .sentinel, .sentinel], laidTests := true, laidLooks := .later }
def ArrayResizesCardSaid : Prop := Claim7.holds Tryz.pinned (.plain (OpenSpec.ofChange arrayResizesSpec)) arrayResizesCard

/-- THE TIED CARD OF 'arrayarchivelaw06.ArrayChunks'. -/
def arrayChunksCard : Claim7 := { stood := { row := arrayChunksRow, standIns := [], harness := (true, "baceacce3dc5fea90d086edf547f712c6df4315b4946d22902daaa4fd184b85a"), looks := true }, kinds := [], alts := [], laidByText := true, laidKinds := [.data, .data, .data, .sentinel, .sentinel], laidTests := true, laidLooks := .later }
def ArrayChunksCardSaid : Prop := Claim7.holds Tryz.pinned (.plain (OpenSpec.ofChange arrayChunksSpec)) arrayChunksCard

/-- THE TIED CARD OF 'arrayarchivelaw06.ArrayTiles'. -/
def arrayTilesCard : Claim7 := { stood := { row := arrayTilesRow, standIns := [], harness := (true, "baceacce3dc5fea90d086edf547f712c6df4315b4946d22902daaa4fd184b85a"), looks := true }, kinds := [], alts := [], laidByText := true, laidKinds := [.data, .data, .data, .sentinel, .sentinel], laidTests := true, laidLooks := .later }
def ArrayTilesCardSaid : Prop := Claim7.holds Tryz.pinned (.plain (OpenSpec.ofChange arrayTilesSpec)) arrayTilesCard

/-- THE TIED CARD OF 'arrayarchivelaw06.ArrayTouches'. -/
def arrayTouchesCard : Claim7 := { stood := { row := arrayTouchesRow, standIns := [], harness := (true, "baceacce3dc5fea90d086edf547f712c6df4315b4946d22902daaa4fd184b85a"), looks := true }, kinds := [], alts := [], laidByText := true, laidKinds := [.data, .data, .data, .sentinel, .sentinel], laidTests := true, laidLooks := .later }
def ArrayTouchesCardSaid : Prop := Claim7.holds Tryz.pinned (.plain (OpenSpec.ofChange arrayTouchesSpec)) arrayTouchesCard

/-- THE TIED CARD OF 'arrayarchivelaw06.ArrayEaches'. -/
def arrayEachesCard : Claim7 := { stood := { row := arrayEachesRow, standIns := [], harness := (true, "baceacce3dc5fea90d086edf547f712c6df4315b4946d22902daaa4fd184b85a"), looks := true }, kinds := [], alts := [], laidByText := true, laidKinds := [.data, .data, .data, .sentinel, .sentinel], laidTests := true, laidLooks := .later }
def ArrayEachesCardSaid : Prop := Claim7.holds Tryz.pinned (.plain (OpenSpec.ofChange arrayEachesSpec)) arrayEachesCard

/-- THE TIED CARD OF 'arrayarchivelaw06.ArrayMoves'. -/
def arrayMovesCard : Claim7 := { stood := { row := arrayMovesRow, standIns := [], harness := (true, "baceacce3dc5fea90d086edf547f712c6df4315b4946d22902daaa4fd184b85a"), looks := true }, kinds := [], alts := [], laidByText := true, laidKinds := [.data, .data, .data, .sentinel, .sentinel], laidTests := true, laidLooks := .later }
def ArrayMovesCardSaid : Prop := Claim7.holds Tryz.pinned (.plain (OpenSpec.ofChange arrayMovesSpec)) arrayMovesCard

/-- THE TIED CARD OF 'arrayarchivelaw06.ArrayTwice'. -/
def arrayTwiceCard : Claim7 := { stood := { row := arrayTwiceRow, standIns := [], harness := (true, "baceacce3dc5fea90d086edf547f712c6df4315b4946d22902daaa4fd184b85a"), looks := true }, kinds := [], alts := [], laidByText := true, laidKinds := [.data, .data, .data, .sentinel, .sentinel], laidTests := true, laidLooks := .later }
def ArrayTwiceCardSaid : Prop := Claim7.holds Tryz.pinned (.plain (OpenSpec.ofChange arrayTwiceSpec)) arrayTwiceCard

/-- THE SECOND FORM's CARD OF 'arrayarchivelaw06.ArrayValid'. -/
def arrayValidUptoCard : Claim7 := { stood := { row := arrayValidUptoRow, standIns := [], harness := (true, "baceacce3dc5fea90d086edf547f712c6df4315b4946d22902daaa4fd184b85a"), looks := true }, kinds := [], alts := [], laidByText := true, laidKinds := [.data, .data, .data, .sentinel, .sentinel], laidTests := true, laidLooks := .later }
def ArrayValidUptoCardSaid : Prop := Claim7.holds Tryz.pinned (.plain (OpenSpec.upto arrayValidSpec)) arrayValidUptoCard

/-- THE SECOND FORM's CARD OF 'arrayarchivelaw06.ArraySlabs'. -/
def arraySlabsUptoCard : Claim7 := { stood := { row := arraySlabsUptoRow, standIns := [], harness := (true, "baceacce3dc5fea90d086edf547f712c6df4315b4946d22902daaa4fd184b85a"), looks := true }, kinds := [], alts := [], laidByText := true, laidKinds := [.data, .data, .data, .sentinel, .sentinel], laidTests := true, laidLooks := .later }
def ArraySlabsUptoCardSaid : Prop := Claim7.holds Tryz.pinned (.plain (OpenSpec.upto arraySlabsSpec)) arraySlabsUptoCard

/-- THE SECOND FORM's CARD OF 'arrayarchivelaw06.ArrayResizes'. -/
def arrayResizesUptoCard : Claim7 := { stood := { row := arrayResizesUptoRow, standIns := [], harness := (true, "baceacce3dc5fea90d086edf547f712c6df4315b4946d22902daaa4fd184b85a"), looks := true }, kinds := [], alts := [], laidByText := true, laidKinds := [.data, .data, .data, .sentinel, .sentinel], laidTests := true, laidLooks := .later }
def ArrayResizesUptoCardSaid : Prop := Claim7.holds Tryz.pinned (.plain (OpenSpec.upto arrayResizesSpec)) arrayResizesUptoCard

/-- THE SECOND FORM's CARD OF 'arrayarchivelaw06.ArrayChunks'. -/
def arrayChunksUptoCard : Claim7 := { stood := { row := arrayChunksUptoRow, standIns := [], harness := (true, "baceacce3dc5fea90d086edf547f712c6df4315b4946d22902daaa4fd184b85a"), looks := true }, kinds := [], alts := [], laidByText := true, laidKinds := [.data, .data, .data, .sentinel, .sentinel], laidTests := true, laidLooks := .later }
def ArrayChunksUptoCardSaid : Prop := Claim7.holds Tryz.pinned (.plain (OpenSpec.upto arrayChunksSpec)) arrayChunksUptoCard

/-- THE SECOND FORM's CARD OF 'arrayarchivelaw06.ArrayTiles'. -/
def arrayTilesUptoCard : Claim7 := { stood := { row := arrayTilesUptoRow, standIns := [], harness := (true, "baceacce3dc5fea90d086edf547f712c6df4315b4946d22902daaa4fd184b85a"), looks := true }, kinds := [], alts := [], laidByText := true, laidKinds := [.data, .data, .data, .sentinel, .sentinel], laidTests := true, laidLooks := .later }
def ArrayTilesUptoCardSaid : Prop := Claim7.holds Tryz.pinned (.plain (OpenSpec.upto arrayTilesSpec)) arrayTilesUptoCard

/-- THE SECOND FORM's CARD OF 'arrayarchivelaw06.ArrayTouches'. -/
def arrayTouchesUptoCard : Claim7 := { stood := { row := arrayTouchesUptoRow, standIns := [], harness := (true, "baceacce3dc5fea90d086edf547f712c6df4315b4946d22902daaa4fd184b85a"), looks := true }, kinds := [], alts := [], laidByText := true, laidKinds := [.data, .data, .data, .sentinel, .sentinel], laidTests := true, laidLooks := .later }
def ArrayTouchesUptoCardSaid : Prop := Claim7.holds Tryz.pinned (.plain (OpenSpec.upto arrayTouchesSpec)) arrayTouchesUptoCard

/-- THE SECOND FORM's CARD OF 'arrayarchivelaw06.ArrayEaches'. -/
def arrayEachesUptoCard : Claim7 := { stood := { row := arrayEachesUptoRow, standIns := [], harness := (true, "baceacce3dc5fea90d086edf547f712c6df4315b4946d22902daaa4fd184b85a"), looks := true }, kinds := [], alts := [], laidByText := true, laidKinds := [.data, .data, .data, .sentinel, .sentinel], laidTests := true, laidLooks := .later }
def ArrayEachesUptoCardSaid : Prop := Claim7.holds Tryz.pinned (.plain (OpenSpec.upto arrayEachesSpec)) arrayEachesUptoCard

/-- THE SECOND FORM's CARD OF 'arrayarchivelaw06.ArrayMoves'. -/
def arrayMovesUptoCard : Claim7 := { stood := { row := arrayMovesUptoRow, standIns := [], harness := (true, "baceacce3dc5fea90d086edf547f712c6df4315b4946d22902daaa4fd184b85a"), looks := true }, kinds := [], alts := [], laidByText := true, laidKinds := [.data, .data, .data, .sentinel, .sentinel], laidTests := true, laidLooks := .later }
def ArrayMovesUptoCardSaid : Prop := Claim7.holds Tryz.pinned (.plain (OpenSpec.upto arrayMovesSpec)) arrayMovesUptoCard

/-- THE SECOND FORM's CARD OF 'arrayarchivelaw06.ArrayTwice'. -/
def arrayTwiceUptoCard : Claim7 := { stood := { row := arrayTwiceUptoRow, standIns := [], harness := (true, "baceacce3dc5fea90d086edf547f712c6df4315b4946d22902daaa4fd184b85a"), looks := true }, kinds := [], alts := [], laidByText := true, laidKinds := [.data, .data, .data, .sentinel, .sentinel], laidTests := true, laidLooks := .later }
def ArrayTwiceUptoCardSaid : Prop := Claim7.holds Tryz.pinned (.plain (OpenSpec.upto arrayTwiceSpec)) arrayTwiceUptoCard
end Rows
end Go.Proofs.YtigidchicloleaaGreatDoor
