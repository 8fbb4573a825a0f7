/- A struct of two numbers, a list of numbers and a bool, by value: opened. -/
import Derived.Test.YthpeaeepcbbfcaaLiftC
import Derived.Test.YthpeaeepcbbfcaaAY
namespace Go.Proofs.Ythpeaeepcbbfcaa
open Go.ChangeShapes Go.WideShapes Go.ChangeAt Go.RowKit Go.Joins Go.Deep
theorem Try.cells52 : Try.prog.cellsOf 52 = 4 := by kernel_rfl
theorem Try.cells4 : Try.prog.cellsOf 4 = 1 := by kernel_rfl
section
variable {H : Type} {enc : TypeId × Value → H} {w : World} {base b0 : Nat} {spare : Nat → Bool} {held : Bool} {r : Reach} {v : Value} {d : DataW H} {p : List MemPlace}
set_option maxRecDepth 100000 in
theorem open_grouping (hv : Value.okWide Try.prog w r b0 52 v) (h : DataW.Trod enc Try.prog w base spare held 52 v d p) :
    ∃ (a b : Int) (q : Option Addr) (n c : Nat) (l : List Int) (cyc : Bool), v = .agg #[.int .i64 a, .int .i64 b, .slice q n c, .bool cyc] ∧ n ≤ c ∧ Rd w q n l := by
  obtain ⟨cs, rfl, hsz⟩ := okWide_struct Try.underlying52 hv
  obtain ⟨c0, c1, c2, c3, rfl⟩ := array4 (hsz.trans Try.cells52)
  obtain ⟨fuel, hf⟩ := h
  obtain ⟨y0, y1, y2, y3, n, -, -, h0, h1, h2, h3⟩ := trod_struct4 Try.underlying52 hf
  simp [Value.cells, Try.cells3, Try.cells41, Try.cells4] at h0 h1 h2 h3
  obtain ⟨x0, e0, -, -⟩ := DataW.trod_int Try.underlying3 h0
  obtain ⟨x1, e1, -, -⟩ := DataW.trod_int Try.underlying3 h1
  obtain ⟨q, n5, c5', l, e5, hc, hr⟩ := open_list h2
  obtain ⟨x3, e3, -⟩ := DataW.trod_bool Try.underlying4 h3
  simp at e0 e1 e3
  subst e0 e1 e3 e5
  exact ⟨x0, x1, q, n5, c5', l, x3, rfl, hc, hr⟩
end
end Go.Proofs.Ythpeaeepcbbfcaa
