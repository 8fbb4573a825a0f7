/- A struct with a date and a list of numbers, by value: opened. -/
import Derived.Test.YthpeaeepcbbfcaaLiftB
import Derived.Test.YthpeaeepcbbfcaaAV
import Derived.ChangeSlices
import Derived.Deep.Strs
namespace Go.Proofs.Ythpeaeepcbbfcaa
open Go.ChangeShapes Go.WideShapes Go.ChangeAt Go.RowKit Go.Joins Go.ChangeShapes Go.Deep
theorem Try.cells43 : Try.prog.cellsOf 43 = 6 := by kernel_rfl
theorem Try.cells41 : Try.prog.cellsOf 41 = 1 := by kernel_rfl
theorem array6 {α : Type} {cs : Array α} (h : cs.size = 6) : ∃ c0 c1 c2 c3 c4 c5, cs = #[c0, c1, c2, c3, c4, c5] := by
  obtain ⟨l⟩ := cs
  match l, h with
  | [c0, c1, c2, c3, c4, c5], _ => exact ⟨c0, c1, c2, c3, c4, c5, rfl⟩
section
variable {H : Type} {enc : TypeId × Value → H} {w : World} {base b0 : Nat} {spare : Nat → Bool} {held : Bool} {r : Reach} {v : Value} {d : DataW H} {p : List MemPlace}
/-- A list of numbers reads as one. -/
theorem open_list {fuel : Nat} {c : Value} {x : DataW H × List MemPlace} (h : DataW.trod enc Try.prog w base spare held fuel 41 [c] = some x) : ∃ (q : Option Addr) (n cc : Nat) (l : List Int), c = .slice q n cc ∧ n ≤ cc ∧ Rd w q n l := by
  rcases open_ints Try.underlying41 Try.underlying3 Try.cells3 h with ⟨e, -⟩ | ⟨a, len, cap, zs, e, hb, hl, hm, hlen, -, hc, -⟩
  · simp at e
    exact ⟨none, 0, 0, [], e, Nat.le_refl _, Rd.nil _ _⟩
  · simp at e
    have hz : len ≤ zs.length := by rw [hlen]; split <;> omega
    refine ⟨some a, len, cap, zs.take len, e, hl, by simp [hz], ?_⟩
    by_cases h0 : len = 0
    · exact .inl h0
    · have h1 := hc 0 (by omega)
      rw [Addr.add_zero'] at h1
      have hs := World.cell?_spot h1
      have hlt : a.block < w.heap.size := by
        obtain ⟨b, off, sp⟩ := a
        simp only at hs
        subst hs
        simp only
        refine Classical.byContradiction fun hx => ?_
        simp [World.cell?, hx] at h1
      obtain ⟨b, off, sp⟩ := a
      simp only at hs
      subst hs
      refine .inr ⟨b, off, rfl, hlt, fun j hj => ?_⟩
      have h2 := hc j (by omega)
      rw [Addr.add_lit] at h2
      rw [h2, List.getD_eq_getElem?_getD, List.getD_eq_getElem?_getD, List.getElem?_take, if_pos hj]
set_option maxRecDepth 100000 in
theorem open_mapping (hv : Value.okWide Try.prog w r b0 43 v) (h : DataW.Trod enc Try.prog w base spare held 43 v d p) :
    ∃ (a b y m k : Int) (q : Option Addr) (n c : Nat) (l : List Int), v = .agg #[.int .i64 a, .int .i64 b, .int .i64 y, .int .i64 m, .int .i64 k, .slice q n c] ∧ n ≤ c ∧ Rd w q n l := by
  obtain ⟨cs, rfl, hsz⟩ := okWide_struct Try.underlying43 hv
  obtain ⟨c0, c1, c2, c3, c4, c5, rfl⟩ := array6 (hsz.trans Try.cells43)
  obtain ⟨fuel, hf⟩ := h
  obtain ⟨y0, y1, y2, y3, n, -, -, h0, h1, h2, h3⟩ := trod_struct4 Try.underlying43 hf
  simp [Value.cells, Try.cells3, Try.cells28, Try.cells41] at h0 h1 h2 h3
  obtain ⟨x0, e0, -, -⟩ := DataW.trod_int Try.underlying3 h0
  obtain ⟨x1, e1, -, -⟩ := DataW.trod_int Try.underlying3 h1
  obtain ⟨z0, z1, z2, n2, -, -, g0, g1, g2⟩ := trod_struct3 Try.underlying28 h2
  simp [Try.cells3] at g0 g1 g2
  obtain ⟨x2, e2, -, -⟩ := DataW.trod_int Try.underlying3 g0
  obtain ⟨x3, e3, -, -⟩ := DataW.trod_int Try.underlying3 g1
  obtain ⟨x4, e4, -, -⟩ := DataW.trod_int Try.underlying3 g2
  obtain ⟨q, n5, c5', l, e5, hc, hr⟩ := open_list h3
  simp at e0 e1 e2 e3 e4
  subst e0 e1 e2 e3 e4 e5
  exact ⟨x0, x1, x2, x3, x4, q, n5, c5', l, rfl, hc, hr⟩
end
end Go.Proofs.Ythpeaeepcbbfcaa
