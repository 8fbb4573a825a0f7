/- The document's Div and Compare on texts; the law QuantityOps. -/
import Derived.Test.YtigicjakloiliaaGreatDoorSB
import Derived.Test.YtigicjakloiliaaGreatDoorPart19
set_option maxHeartbeats 3200000
set_option maxRecDepth 100000
namespace Go.Proofs.YtigicjakloiliaaGreatDoor
open Go.RowKit Big
open Go.Lib
theorem sgn_same (q : Rat) : sgnQ q = sgnR q := by
  unfold sgnQ sgnR
  have h1 : q.num < 0 ↔ q < 0 := by rw [← Rat.not_le, ← Rat.num_nonneg]; omega
  have h2 : q.num = 0 ↔ q = 0 := Rat.num_eq_zero
  simp only [h1, h2]
theorem two_yes {s t : ByteArray} {a b : Rat} (ha : num s.data.toList = some a) (hb : num t.data.toList = some b) (W : World) : Hid (Calls Tryz.prog 84 #[.string s, .string t] W (TwoPost a b true W)) := Lib.hid (by
  have h := two_any s t W
  rw [ha, hb] at h; exact h)
theorem two_not {s t : ByteArray} (hn : num s.data.toList = none ∨ num t.data.toList = none) (W : World) : Hid (Calls Tryz.prog 84 #[.string s, .string t] W (TwoPost 0 0 false W)) := Lib.hid (by
  have h := two_any s t W
  have k : ∀ e w', (∃ a b, TwoPost a b false W e w') → TwoPost 0 0 false W e w' := by
    rintro e w' ⟨a, b, b1, p, n, c, p2, n2, c2, b2, q, m, d, q2, m2, d2, h1, h2, _⟩
    exact ⟨b1, p, n, c, p2, n2, c2, b2, q, m, d, q2, m2, d2, h1, h2, fun h => by cases h⟩
  refine h.mono fun e w' h => ?_
  rcases hn with h1 | h1
  · rw [h1] at h; exact k _ _ h
  · rw [h1] at h
    cases h2 : num s.data.toList with
    | none => rw [h2] at h; exact k _ _ h
    | some a => rw [h2] at h; exact k _ _ h)
theorem num_both (x y : List UInt8) : (∃ a b, num x = some a ∧ num y = some b) ∨ (num x = none ∨ num y = none) := by
  cases hx : num x with
  | none => exact .inr (.inl rfl)
  | some a => cases hy : num y with
    | none => exact .inr (.inr rfl)
    | some b => exact .inl ⟨a, b, rfl, rfl⟩
end Go.Proofs.YtigicjakloiliaaGreatDoor
