/- The closed cells of the law's row, fact by fact, and the card. -/
import Derived.Test.YtoegbjmoecbjdaaGreatDoorPart21
import Derived.Test.YtoegbjmoecbjdaaGreatDoorF20
namespace Go.Proofs.YtoegbjmoecbjdaaGreatDoor
open Go.ChangeMaps Go.ChangeShapes Go.WideShapes Go.ChangeAt Go.RowKit
theorem field_said : Rows.QuantityFieldSaid :=
  OpenClaim.holds_of_wide 11 Tryz.f11 rfl rfl rfl rfl rfl rfl rfl ⟨rfl, rfl, rfl, rfl, rfl⟩ rfl rfl rfl rfl rfl field_name Tryz.func11 field_closed field_inst field_wrap
    (fun os started H enc _ => field_lifted os started H enc)
#print axioms field_said
end Go.Proofs.YtoegbjmoecbjdaaGreatDoor
