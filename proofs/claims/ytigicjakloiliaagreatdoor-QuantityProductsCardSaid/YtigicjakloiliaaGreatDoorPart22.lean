/- The program of the harness. -/
import Derived.Test.YtigicjakloiliaaGreatDoorPart21
namespace Go.Proofs.YtigicjakloiliaaGreatDoor
open Go.ChangeMaps Go.ChangeShapes Go.WideShapes Go.ChangeAt Go.RowKit
theorem prog_main : Tryz.pinned.checked.prog.mainIs = some (true, "7cf598d4d7a1f4838f065ec50aa2d593d90ec9e542259bdfe519198cd93a599e".toList) := by kernel_rfl
end Go.Proofs.YtigicjakloiliaaGreatDoor
