/- Texts of units: ParseUnit. awake, equal, missing. The law QuantityField: its walk. -/
import Derived.Test.YtoegbjmoecbjdaaGreatDoorPart19
namespace Go.Proofs.YtoegbjmoecbjdaaGreatDoor
open Go.RowKit Go.Lib Big
def TwoIs (w : World) (f : FuncId) (a b r : List UInt8) : Prop := ∀ W, Below w.heap.size w W → Calls Tryz.prog f #[.string ⟨a.toArray⟩, .string ⟨b.toArray⟩] W (TxtPost r W)
theorem twoAdd (w : World) (htab : Tab w) (a b : List UInt8) : TwoIs w 26 a b (opT (· + ·) a b) := fun W hb => add_q ⟨a.toArray⟩ ⟨b.toArray⟩ W (htab.below hb)
theorem twoSub (w : World) (htab : Tab w) (a b : List UInt8) : TwoIs w 28 a b (opT (· - ·) a b) := fun W hb => sub_q ⟨a.toArray⟩ ⟨b.toArray⟩ W (htab.below hb)
end Go.Proofs.YtoegbjmoecbjdaaGreatDoor
