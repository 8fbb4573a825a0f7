/- Cuts: which are valid for a size. -/
import Derived.Test.YtigidchicloleaaGreatDoorGC
set_option maxHeartbeats 2000000
set_option maxRecDepth 100000
namespace Go.Proofs.YtigidchicloleaaGreatDoor.Arr
open Go.RowKit
open Go.Lib
def cutOk (s : Nat) (a n k : Int) : Bool := decide (0 ≤ a) && decide (0 ≤ n) && decide (1 ≤ k) && decide (a ≤ (s : Int)) && (decide (n = 0) || (decide (a < (s : Int)) && decide (n - 1 ≤ ((s : Int) - 1 - a) / k)))
theorem cutOk_no {s : Nat} {a n k : Int} (h : a < 0 ∨ n < 0 ∨ k < 1 ∨ (s : Int) < a ∨ (n ≠ 0 ∧ (s : Int) ≤ a)) : cutOk s a n k = false := by
  unfold cutOk
  rcases h with h | h | h | h | ⟨h1, h2⟩
  · rw [decide_eq_false (show ¬ 0 ≤ a by omega)]; simp
  · rw [decide_eq_false (show ¬ 0 ≤ n by omega)]; simp
  · rw [decide_eq_false (show ¬ 1 ≤ k by omega)]; simp
  · rw [decide_eq_false (show ¬ a ≤ (s : Int) by omega)]; simp
  · rw [decide_eq_false h1, decide_eq_false (show ¬ a < (s : Int) by omega)]; simp
theorem cutOk_zero {s : Nat} {a k : Int} (h1 : 0 ≤ a) (h2 : 1 ≤ k) (h3 : a ≤ (s : Int)) : cutOk s a 0 k = true := by
  unfold cutOk
  rw [decide_eq_true h1, decide_eq_true h2, decide_eq_true h3]; simp
theorem cutOk_rest {s : Nat} {a n k : Int} (h1 : 0 ≤ a) (h2 : 1 ≤ n) (h3 : 1 ≤ k) (h4 : a < (s : Int)) : cutOk s a n k = decide (n - 1 ≤ ((s : Int) - 1 - a) / k) := by
  unfold cutOk
  rw [decide_eq_true h1, decide_eq_true (show 0 ≤ n by omega), decide_eq_true h3, decide_eq_true (show a ≤ (s : Int) by omega), decide_eq_false (show ¬ n = 0 by omega), decide_eq_true h4]; simp
def CutPost (b : Bool) (w : World) (e : Ending) (w' : World) : Prop := Below w.heap.size w w' ∧ e = .returned (.bool b)
theorem below_box (w : World) (o : Obj) (k : Nat) : Below w.heap.size w ((w.alloc o).drewN k) := (((Below.refl _ w).alloc (Nat.le_refl _) o)).trans ⟨rfl, rfl, rfl, Nat.le_refl _, fun _ _ => rfl⟩
theorem iscut_any (s : Nat) (a n k : Int) (w : World) (hs : s ≤ 1024) (hn : Hid (-9223372036854775808 ≤ n ∧ n ≤ 9223372036854775807)) :
    Calls Tryz.prog 88 #[.int .i64 (s : Int), .agg #[.int .i64 a, .int .i64 n, .int .i64 k]] w (CutPost (cutOk s a n k) w) := by
  have his : (s : Int) ≤ 1024 := by omega
  have HB := Lib.hid (below_box w (.cells #[.int .i64 a, .int .i64 n, .int .i64 k] 66))
  have HB0 : Hid (Below w.heap.size w (w.alloc (.cells #[.int .i64 a, .int .i64 n, .int .i64 k] 66))) := Lib.hid ((Below.refl _ w).alloc (Nat.le_refl _) _)
  by_cases h1 : a < 0
  · rw [cutOk_no (.inl h1)]
    go_enter Tryz.func88, Tryz.ntmps88
    go_wp2_with fail
    go_ret
    exact ⟨HB0.out, rfl⟩
  by_cases h2 : n < 0
  · rw [cutOk_no (.inr (.inl h2))]
    go_enter Tryz.func88, Tryz.ntmps88
    go_wp2_with fail
    go_ret
    exact ⟨HB0.out, rfl⟩
  by_cases h3 : k < 1
  · rw [cutOk_no (.inr (.inr (.inl h3)))]
    go_enter Tryz.func88, Tryz.ntmps88
    go_wp2_with fail
    go_ret
    exact ⟨HB0.out, rfl⟩
  by_cases h4 : (s : Int) < a
  · rw [cutOk_no (.inr (.inr (.inr (.inl h4))))]
    go_enter Tryz.func88, Tryz.ntmps88
    go_wp2_with fail
    go_ret
    exact ⟨HB0.out, rfl⟩
  have g1 : 0 ≤ a := by omega
  have g3 : 1 ≤ k := by omega
  have g4 : a ≤ (s : Int) := by omega
  by_cases h5 : n = 0
  · subst h5
    rw [cutOk_zero g1 g3 g4]
    go_enter Tryz.func88, Tryz.ntmps88
    go_wp2_with fail
    go_quiet (fail)
    go_wp2_with fail
    go_ret
    exact ⟨HB.out _, rfl⟩
  have h5b : (n == 0) = false := by rw [beq_eq_false_iff_ne]; exact h5
  by_cases h6 : a < (s : Int)
  · rw [cutOk_rest g1 (by omega) g3 h6]
    have d6 : decide (a < (s : Int)) = true := decide_eq_true h6
    have hw1 : IntKind.i64.wrap (n - 1) = n - 1 := IntWalk.i64_in _ (by have := hn.out; omega)
    have hw2 : IntKind.i64.wrap ((s : Int) - 1) = (s : Int) - 1 := IntWalk.i64_in _ (by omega)
    have hw3 : IntKind.i64.wrap ((s : Int) - 1 - a) = (s : Int) - 1 - a := IntWalk.i64_in _ (by omega)
    obtain ⟨r, HR⟩ : ∃ r, Hid (r = ((s : Int) - 1 - a) / k) := ⟨_, rfl⟩
    have hq : ((s : Int) - 1 - a).tdiv k = r := by rw [HR.out]; exact Int.tdiv_eq_ediv_of_nonneg (by omega)
    have hr0 : 0 ≤ r := by rw [HR.out]; exact Int.ediv_nonneg (by omega) (by omega)
    have hr1 : r ≤ 1024 := by rw [HR.out]; exact Int.le_trans (Int.ediv_le_self _ (by omega)) (by omega)
    have hw4 : IntKind.i64.wrap r = r := IntWalk.i64_in _ (by omega)
    rw [← HR.out]
    have hk0 : (k == 0) = false := by rw [beq_eq_false_iff_ne]; omega
    have hk1 : ¬ k = 0 := by omega
    go_enter Tryz.func88, Tryz.ntmps88
    go_wp2_with fail
    go_quiet (fail)
    go_wp2_with fail
    go_ret
    exact ⟨HB.out _, rfl⟩
  · rw [cutOk_no (.inr (.inr (.inr (.inr ⟨h5, by omega⟩))))]
    have d6 : decide (a < (s : Int)) = false := decide_eq_false h6
    go_enter Tryz.func88, Tryz.ntmps88
    go_wp2_with fail
    go_quiet (fail)
    go_wp2_with fail
    go_ret
    exact ⟨HB.out _, rfl⟩
end Go.Proofs.YtigidchicloleaaGreatDoor.Arr
