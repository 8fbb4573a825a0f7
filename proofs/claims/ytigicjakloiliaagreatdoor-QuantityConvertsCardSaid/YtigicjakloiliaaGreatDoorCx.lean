/- Units: Times, Over. -/
import Derived.Test.YtigicjakloiliaaGreatDoorPart22
namespace Go.Proofs.YtigicjakloiliaaGreatDoor
open Go.RowKit Go.Lib Big
theorem Keep.two (w : World) (c1 c2 : Array Value) (t1 t2 : TypeId) : Keep w ((w.alloc (.cells c1 t1)).alloc (.cells c2 t2)) [(w.heap.size + 1, c2, t2), (w.heap.size, c1, t1)] := by
  have h := ((Keep.nil w).more c1 t1).more c2 t2
  rwa [show (w.alloc (.cells c1 t1)).heap.size = w.heap.size + 1 from by simp] at h
end Go.Proofs.YtigicjakloiliaaGreatDoor
