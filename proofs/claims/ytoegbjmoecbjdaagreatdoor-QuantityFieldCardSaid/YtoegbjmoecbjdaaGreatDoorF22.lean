/- The card of the law QuantityField. -/
import Derived.Test.YtoegbjmoecbjdaaGreatDoorPart22
import Derived.Test.YtoegbjmoecbjdaaGreatDoorF21
namespace Go.Proofs.YtoegbjmoecbjdaaGreatDoor
open Go.ChangeMaps Go.ChangeShapes Go.WideShapes Go.ChangeAt Go.RowKit
theorem field_wf : Rows.quantityFieldRow.wfByText (OpenSpec.ofChange Rows.quantityFieldSpec) = true := by kernel_rfl
theorem field_goes : false = Rows.quantityFieldRow.goesBy Tryz.pinned.checked.prog := by kernel_rfl
theorem field_card : Rows.QuantityFieldCardSaid :=
  Claim7.holds_tied_plain_at .later [] _ _ _ _ field_said (fun _ h => by cases h) field_wf (fun _ h => by cases h) quantityField_row_tie rfl ⟨rfl, rfl⟩ prog_main rfl field_plain field_goes
#print axioms field_card
end Go.Proofs.YtoegbjmoecbjdaaGreatDoor
