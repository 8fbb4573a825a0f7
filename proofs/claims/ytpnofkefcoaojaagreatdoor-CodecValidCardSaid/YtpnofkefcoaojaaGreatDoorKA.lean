/- Types, and whether values fit them. -/
import Derived.Test.YtpnofkefcoaojaaGreatDoorCF
import Derived.Test.YtpnofkefcoaojaaGreatDoorV01
import Derived.Outline
set_option maxHeartbeats 2000000
set_option maxRecDepth 100000
namespace Go.Proofs.YtpnofkefcoaojaaGreatDoor
open Go.RowKit
open Go.Lib
def widT (k : Int) : Nat := if k = 1 then 1 else if k = 2 then 2 else if k = 3 then 4 else if k = 4 then 8 else 0
def isT (k : Int) : Bool := decide (1 ≤ k) && decide (k ≤ 5)
theorem widT_out {k : Int} (h : k < 1 ∨ 4 < k) : widT k = 0 := by
  unfold widT
  rw [if_neg (by omega), if_neg (by omega), if_neg (by omega), if_neg (by omega)]
theorem kinds (k : Int) : k = 1 ∨ k = 2 ∨ k = 3 ∨ k = 4 ∨ k = 5 ∨ k < 1 ∨ 5 < k := by omega
theorem width_any (k : Int) (w : World) : Calls Tryz.prog 13 #[.int .i64 k] w fun e w' => e = .returned (.int .i64 (widT k : Int)) ∧ w = w' := by
  by_cases h1 : k = 1
  · subst h1
    go_enter Tryz.func13, Tryz.ntmps13
    go_wp2_with fail
    go_ret
    exact ⟨rfl, rfl⟩
  by_cases h2 : k = 2
  · subst h2
    go_enter Tryz.func13, Tryz.ntmps13
    go_wp2_with fail
    go_ret
    exact ⟨rfl, rfl⟩
  by_cases h3 : k = 3
  · subst h3
    go_enter Tryz.func13, Tryz.ntmps13
    go_wp2_with fail
    go_ret
    exact ⟨rfl, rfl⟩
  by_cases h4 : k = 4
  · subst h4
    go_enter Tryz.func13, Tryz.ntmps13
    go_wp2_with fail
    go_ret
    exact ⟨rfl, rfl⟩
  have e : widT k = 0 := by unfold widT; rw [if_neg h1, if_neg h2, if_neg h3, if_neg h4]
  rw [e]
  have g1 : (k == 1) = false := by simpa using h1
  have g2 : (k == 2) = false := by simpa using h2
  have g3 : (k == 3) = false := by simpa using h3
  have g4 : (k == 4) = false := by simpa using h4
  go_enter Tryz.func13, Tryz.ntmps13
  go_wp2_with fail
  go_ret
  exact ⟨rfl, rfl⟩
theorem isType_any (k : Int) (w : World) : Calls Tryz.prog 39 #[.int .i64 k] w fun e w' => e = .returned (.bool (isT k)) ∧ w = w' := by
  have HW := Lib.hid (width_any k w)
  obtain ⟨d, HD⟩ : ∃ d, Hid (d = widT k) := ⟨_, rfl⟩
  rw [← HD.out] at HW
  obtain ⟨b, HB⟩ : ∃ b, Hid (b = isT k) := ⟨_, rfl⟩
  rw [← HB.out]
  by_cases h : 1 ≤ k ∧ k ≤ 4
  · obtain rfl : b = true := by rw [HB.out]; unfold isT; rw [decide_eq_true h.1, decide_eq_true (by omega)]; rfl
    have hd : (0 : Int) < (d : Int) := by
      have : 0 < d := by
        rw [HD.out]; unfold widT
        have : k = 1 ∨ k = 2 ∨ k = 3 ∨ k = 4 := by omega
        rcases this with rfl | rfl | rfl | rfl <;> decide
      omega
    go_enter Tryz.func39, Tryz.ntmps39
    go_wp2_with fail
    refine (HW.out).mono ?_
    rintro e w' ⟨rfl, rfl⟩
    go_wp2_with fail
    go_ret
    exact ⟨rfl, rfl⟩
  · obtain rfl : d = 0 := by rw [HD.out]; exact widT_out (by omega)
    by_cases h5 : k = 5
    · subst h5
      obtain rfl : b = true := HB.out
      go_enter Tryz.func39, Tryz.ntmps39
      go_wp2_with fail
      refine (HW.out).mono ?_
      rintro e w' ⟨rfl, rfl⟩
      go_wp2_with fail
      go_ret
      exact ⟨rfl, rfl⟩
    · obtain rfl : b = false := by
        rw [HB.out]; unfold isT
        by_cases h1 : 1 ≤ k
        · rw [decide_eq_false (show ¬ k ≤ 5 by omega), Bool.and_false]
        · rw [decide_eq_false h1]; rfl
      have g5 : (k == 5) = false := by simpa using h5
      go_enter Tryz.func39, Tryz.ntmps39
      go_wp2_with fail
      refine (HW.out).mono ?_
      rintro e w' ⟨rfl, rfl⟩
      go_wp2_with fail
      go_ret
      exact ⟨rfl, rfl⟩
theorem rwidth_any (k : Int) (w : World) : Calls Tryz.prog 14 #[.int .i64 k] w fun e w' => e = .returned (.int .i64 (widT k : Int)) ∧ w = w' := by
  rcases kinds k with rfl | rfl | rfl | rfl | rfl | h | h
  case inr.inr.inr.inr.inr.inl =>
    rw [widT_out (.inl h)]
    go_enter Tryz.func14, Tryz.ntmps14
    go_wp2_with fail
    go_ret
    exact ⟨rfl, rfl⟩
  case inr.inr.inr.inr.inr.inr =>
    rw [widT_out (.inr (by omega))]
    have h1 : ¬ k < 1 := by omega
    have h4 : 4 < k := by omega
    go_enter Tryz.func14, Tryz.ntmps14
    go_wp2_with fail
    go_ret
    exact ⟨rfl, rfl⟩
  all_goals
    go_enter Tryz.func14, Tryz.ntmps14
    go_wp2_with fail
    go_ret
    exact ⟨rfl, rfl⟩
theorem risType_any (k : Int) (w : World) : Calls Tryz.prog 41 #[.int .i64 k] w fun e w' => e = .returned (.bool (isT k)) ∧ w = w' := by
  obtain ⟨b, HB⟩ : ∃ b, Hid (b = isT k) := ⟨_, rfl⟩
  rw [← HB.out]
  by_cases h1 : 1 ≤ k
  · by_cases h5 : k ≤ 5
    · obtain rfl : b = true := by rw [HB.out]; unfold isT; rw [decide_eq_true h1, decide_eq_true h5]; rfl
      go_enter Tryz.func41, Tryz.ntmps41
      go_wp2_with fail
      go_ret
      exact ⟨rfl, rfl⟩
    · obtain rfl : b = false := by rw [HB.out]; unfold isT; rw [decide_eq_false h5, Bool.and_false]
      have h6 : 5 < k := by omega
      go_enter Tryz.func41, Tryz.ntmps41
      go_wp2_with fail
      go_ret
      exact ⟨rfl, rfl⟩
  · obtain rfl : b = false := by rw [HB.out]; unfold isT; rw [decide_eq_false h1]; rfl
    have h6 : k < 1 := by omega
    go_enter Tryz.func41, Tryz.ntmps41
    go_wp2_with fail
    go_ret
    exact ⟨rfl, rfl⟩
end Go.Proofs.YtpnofkefcoaojaaGreatDoor
