/- The program's integer, Int and FromInt. -/
import Derived.Test.YtfjnipkpfbkegaaGreatDoorPart19
import Derived.Test.YtfjnipkpfbkegaaGreatDoorXTA
import Derived.Test.YtfjnipkpfbkegaaGreatDoorXShelfB
set_option maxHeartbeats 3200000
set_option maxRecDepth 100000
namespace Go.Proofs.YtfjnipkpfbkegaaGreatDoor
open Go.RowKit Big
open Go.Lib
theorem num_len {l : List UInt8} {q : Rat} (h : num l = some q) : l.length ≤ 82 := by
  unfold num readQ at h
  split at h
  · cases h
  · omega
end Go.Proofs.YtfjnipkpfbkegaaGreatDoor
