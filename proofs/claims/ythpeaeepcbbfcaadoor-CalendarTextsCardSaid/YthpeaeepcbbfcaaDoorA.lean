/- The small functions of the calendars: the rules' functions. -/
import Derived.Test.YthpeaeepcbbfcaaDoorProg
import Derived.Test.YthpeaeepcbbfcaaDoorMath
import Derived.WalkKit
import Derived.WalkSpells
import Derived.WalkLawsBesides
import Derived.Lib.Hide
import Derived.Outline
import Derived.Below
import Derived.BigQuiet
import Derived.Deep.QuietTactic
namespace Go.Proofs.YthpeaeepcbbfcaaDoor
open Go.RowKit

theorem ret_bool {a b : Bool} (h : a = b) : Ending.returned (.bool a) = .returned (.bool b) := by rw [h]
theorem ret_int {k : IntKind} {a b : Int} (h : a = b) : Ending.returned (.int k a) = .returned (.int k b) := by rw [h]

theorem none_any (y : Int) (w : World) : Calls Tryd.prog 19 #[.int .i64 y] w fun e w' => e = .returned (.int .i64 0) ∧ w = w' := by
  go_enter Tryd.func19, Tryd.ntmps19
  go_wp2
  go_ret
  exact ⟨rfl, rfl⟩

theorem mul_pos (n y : Int) (h : 0 < y) (hn : 1 ≤ n) : (y - 1) / n + 1 = mul n y := by
  unfold mul
  rw [show y + (n - 1) = (y - 1) + n * 1 by omega, Int.add_mul_ediv_left _ _ (by omega)]
theorem mul_neg (n y : Int) (h : y ≤ 0) (hn : n = 4 ∨ n = 100 ∨ n = 400) : y.tdiv n = mul n y := by
  have e : y.tdiv n = -((-y) / n) := by
    rw [show y = -(-y) by omega, Int.neg_tdiv, Int.tdiv_eq_ediv_of_nonneg (by omega)]; simp
  rw [e]; unfold mul
  rcases hn with rfl | rfl | rfl <;> omega

set_option maxHeartbeats 400000 in
theorem multiples_any (n y : Int) (w : World) (hn : n = 4 ∨ n = 100 ∨ n = 400) (h0 : -20000 ≤ y) (h1 : y ≤ 20000) :
    Calls Tryd.prog 21 #[.int .i64 n, .int .i64 y] w fun e w' => e = .returned (.int .i64 (mul n y)) ∧ w = w' := by
  have n1 : 1 ≤ n := by omega
  have n2 : n ≤ 400 := by omega
  by_cases h : 0 < y
  · have e := Lib.hid (mul_pos n y h n1)
    have b1 : 0 ≤ (y - 1) / n := Int.ediv_nonneg (by omega) (by omega)
    have b2 : (y - 1) / n ≤ y - 1 := Int.ediv_le_self _ (by omega)
    clear hn
    go_enter Tryd.func21, Tryd.ntmps21
    go_wp2
    go_ret
    exact ⟨ret_int e.out, rfl⟩
  · have e := Lib.hid (mul_neg n y (by omega) hn)
    clear hn
    go_enter Tryd.func21, Tryd.ntmps21
    go_wp2
    go_ret
    exact ⟨ret_int e.out, rfl⟩
end Go.Proofs.YthpeaeepcbbfcaaDoor
