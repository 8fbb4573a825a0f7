/- The program of the harness. -/
import Derived.Test.YtoegbjmoecbjdaaGreatDoorPart21
namespace Go.Proofs.YtoegbjmoecbjdaaGreatDoor
open Go.ChangeMaps Go.ChangeShapes Go.WideShapes Go.ChangeAt Go.RowKit
theorem prog_main : Tryz.pinned.checked.prog.mainIs = some (true, "ec9add4ff4eeafb436a626b5787153addf5ca3361eb111640c8b0e728c056524".toList) := by kernel_rfl
end Go.Proofs.YtoegbjmoecbjdaaGreatDoor
