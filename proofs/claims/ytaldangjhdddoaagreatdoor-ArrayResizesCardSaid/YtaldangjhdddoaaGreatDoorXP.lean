/- What came in: arrays, lists, cuttings; the types of arguments. -/
import Derived.Test.YtaldangjhdddoaaGreatDoorXO
set_option maxRecDepth 100000
namespace Go.Proofs.YtaldangjhdddoaaGreatDoor
open Go.ChangeMaps Go.ChangeShapes Go.WideShapes Go.ChangeAt Go.RowKit Go.Deep
namespace Arr
section
variable {H : Type} {enc : TypeId × Value → H} {w : World} {base b0 : Nat} {spare : Nat → Bool} {held : Bool} {r : Reach} {v : Value} {d : DataW H} {p : List MemPlace}
theorem in_list (hv : Value.okWide Tryz.prog w r b0 22 v) (h : DataW.Trod enc Tryz.prog w base spare held 22 v d p) : ∃ (q : Option Addr) (c : Nat) (l : List Int), v = .slice q l.length c ∧ Rd w q l := by
  obtain ⟨a0, len0, cap0, rfl⟩ := okWide_slice Tryz.underlying22 hv
  obtain ⟨fuel, hf⟩ := h
  exact in_ints (v := .slice a0 len0 cap0) hf
theorem in_array (hv : Value.okWide Tryz.prog w r b0 25 v) (h : DataW.Trod enc Tryz.prog w base spare held 25 v d p) :
    ∃ (pa qa : Option Addr) (c c' : Nat) (s : List Int) (l : List (List UInt8)), v = .agg #[.slice pa s.length c, .slice qa l.length c'] ∧ Rd w pa s ∧ RdS w qa l := by
  obtain ⟨cs, rfl, hsz⟩ := okWide_struct Tryz.underlying25 hv
  obtain ⟨x0, x1, rfl⟩ := Go.Joins.array2 (hsz.trans cells25')
  obtain ⟨fuel, hf⟩ := h
  obtain ⟨y3, y4, n2, -, -, g0, g1⟩ := trod_struct2 Tryz.underlying25 hf
  simp [Value.cells, cells22', cells23'] at g0 g1
  obtain ⟨pa, c, s, rfl, hr0⟩ := in_ints g0
  obtain ⟨qa, c', l, rfl, hr1⟩ := in_strs g1
  exact ⟨pa, qa, c, c', s, l, rfl, hr0, hr1⟩
end
theorem readable25 : Tryz.prog.readableRec 25 = true := by kernel_rfl
theorem inTypes25 : 25 < Tryz.prog.types.size := of_decide_eq_true (by kernel_rfl)
theorem readable9 : Tryz.prog.readableRec 9 = true := by kernel_rfl
theorem inTypes9 : 9 < Tryz.prog.types.size := of_decide_eq_true (by kernel_rfl)
theorem readable22 : Tryz.prog.readableRec 22 = true := by kernel_rfl
theorem inTypes22 : 22 < Tryz.prog.types.size := of_decide_eq_true (by kernel_rfl)
end Arr
end Go.Proofs.YtaldangjhdddoaaGreatDoor
