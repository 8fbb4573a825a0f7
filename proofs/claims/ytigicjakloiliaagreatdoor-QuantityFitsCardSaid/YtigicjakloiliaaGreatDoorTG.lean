/- The document's Parse. -/
import Derived.Test.YtigicjakloiliaaGreatDoorRh
import Derived.Test.YtigicjakloiliaaGreatDoorSB
import Derived.Test.YtigicjakloiliaaGreatDoorPart15
set_option maxHeartbeats 3200000
set_option maxRecDepth 100000
namespace Go.Proofs.YtigicjakloiliaaGreatDoor
open Go.RowKit Big
open Go.Lib
theorem rvalid_any (s : ByteArray) (w : World) : Calls Tryz.prog 20 #[.string s] w fun e w' => e = .returned (.bool (num s.data.toList).isSome) ∧ Below w.heap.size w w' := by
  have hg := fun W => hiD (get_flag s _ rfl W)
  generalize (num s.data.toList).isSome = f at hg ⊢
  go_enter Tryz.func20, Tryz.ntmps20
  go_wp2_with fail
  refine (hg _).out.mono ?_
  rintro e w1 ⟨b1, p, n, c, p2, n2, c2, rfl, hb1, -⟩
  have HB : Hid (∀ o1, Below w.heap.size w (w1.alloc o1)) := hiD fun o1 => hb1.alloc hb1.size o1
  clear hb1
  go_wp2_with fail
  go_ret
  exact ⟨rfl, HB.out _⟩
end Go.Proofs.YtigicjakloiliaaGreatDoor
