/- A slice of bytes that came in: where it is nil, it has no room. -/
import Derived.Test.YtpbcdmefngbjjaaGreatDoorXA
set_option maxRecDepth 100000
namespace Go.Proofs.YtpbcdmefngbjjaaGreatDoor
open Go.ChangeMaps Go.ChangeShapes Go.WideShapes Go.ChangeAt Go.RowKit
theorem open_bytes2 {H : Type} {enc : TypeId × Value → H} {w : World} {base b0 : Nat} {spare : Nat → Bool} {held : Bool} {r : Reach} {v : Value} {d : DataW H} {p : List MemPlace} (hv : Value.okWide Tryz.prog w r b0 22 v) (h : DataW.Trod enc Tryz.prog w base spare held 22 v d p) :
    ∃ (q : Option Addr) (c : Nat) (l : List UInt8), v = .slice q l.length c ∧ l.length ≤ c ∧ (q = none → c = 0) ∧ Bs w q l := by
  obtain ⟨q, c, l, rfl, h1, -, h3⟩ := open_bytes hv h
  refine ⟨q, c, l, rfl, h1, ?_, h3⟩
  obtain ⟨fuel, hf⟩ := h
  intro hq
  subst hq
  rcases open_ints Tryz.underlying22 Tryz.underlying5 cells5 hf with ⟨e, -⟩ | ⟨a, len, cap, zs, e, -⟩
  · simp [Value.cells] at e
    exact e.2
  · simp [Value.cells] at e
end Go.Proofs.YtpbcdmefngbjjaaGreatDoor
