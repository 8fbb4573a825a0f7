/- The document's Minus, Cmp, Whole. -/
import Derived.Test.YtoegbjmoecbjdaaGreatDoorRM
namespace Go.Proofs.YtoegbjmoecbjdaaGreatDoor
open Go.RowKit Big
theorem plus_any (x y : Value) (a b : Rat) (K L : Nat) (w : World) (hK : K + L + 1 ≤ 900000) (hab : QLt K a) (hbb : QLt L b) (hx : QAt w x a) (hy : QAt w y b) : Calls Tryz.prog 80 #[x, y] w (QPost (a + b) w) := by
  by_cases h : decide (a.num < 0) = decide (b.num < 0)
  · exact plus_same x y a b K L w hK hab hbb hx hy h
  · by_cases h2 : b.num.natAbs * a.den ≤ a.num.natAbs * b.den
    · exact plus_ge9 x y a b K L w hK hab hbb hx hy h h2
    · exact plus_lt9 x y a b K L w hK hab hbb hx hy h (by omega)
theorem QLt.neg {K : Nat} {q : Rat} (h : QLt K q) : QLt K (-q) := ⟨by rw [Rat.neg_num, Int.natAbs_neg]; exact h.1, by rw [Rat.neg_den]; exact h.2⟩
theorem QAt.dr {w : World} {v : Value} {x : Rat} (h : QAt w v x) : QAt w.drew v x := h.below (Below.refl _ _).drew
end Go.Proofs.YtoegbjmoecbjdaaGreatDoor
