/- The card of the law QuantityField. -/
import Derived.Test.YtigicjakloiliaaGreatDoorPart21
namespace Go.Proofs.YtigicjakloiliaaGreatDoor
open Go.ChangeMaps Go.ChangeShapes Go.WideShapes Go.ChangeAt Go.RowKit
theorem field_wf : Rows.quantityFieldRow.wfByText (OpenSpec.ofChange Rows.quantityFieldSpec) = true := by kernel_rfl
theorem prog_main : Tryz.pinned.checked.prog.mainIs = some (true, "7cf598d4d7a1f4838f065ec50aa2d593d90ec9e542259bdfe519198cd93a599e".toList) := by kernel_rfl
theorem field_goes : false = Rows.quantityFieldRow.goesBy Tryz.pinned.checked.prog := by kernel_rfl
theorem field_card : Rows.QuantityFieldCardSaid :=
  Claim7.holds_tied_plain_at .later [] _ _ _ _ field_said (fun _ h => by cases h) field_wf (fun _ h => by cases h) quantityField_row_tie rfl ⟨rfl, rfl⟩ prog_main rfl field_plain field_goes
#print axioms field_card
end Go.Proofs.YtigicjakloiliaaGreatDoor
