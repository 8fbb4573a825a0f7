/- The document's own functions: Name, inRange, leap, days, length, part, cycle, first. -/

import Derived.Test.YthpeaeepcbbfcaaDoorBox
import Derived.IntWalk
import Derived.Lib.Strings
namespace Go.Proofs.YthpeaeepcbbfcaaDoor
open Go.RowKit

/-- The text of a calendar's name. -/
def nameOf (c : Int) : ByteArray := if c = 1 then ⟨#[103, 114, 101, 103, 111, 114, 105, 97, 110]⟩ else if c = 2 then ⟨#[106, 117, 108, 105, 97, 110]⟩ else if c = 3 then ⟨#[110, 111, 108, 101, 97, 112]⟩ else if c = 4 then ⟨#[97, 108, 108, 108, 101, 97, 112]⟩ else if c = 5 then ⟨#[51, 54, 48, 100, 97, 121]⟩ else ⟨#[]⟩
theorem rname_no (c : Int) (w : World) (h : ¬ isCal c) : Calls Tryd.prog 12 #[.int .i64 c] w fun e w' => e = .returned (.string ⟨#[]⟩) ∧ Below w.heap.size w w' := by
  unfold isCal at h
  by_cases h1 : c < 1
  · clear h
    go_enter Tryd.func12, Tryd.ntmps12
    go_wp2_with fail
    go_ret
    exact ⟨rfl, below_alloc _ _⟩
  · have h5 : decide (5 < c) = true := by simp; omega
    have h1' : decide (c < 1) = false := by simpa using h1
    clear h h1
    go_enter Tryd.func12, Tryd.ntmps12
    go_wp2_with fail
    go_ret
    exact ⟨rfl, below_alloc _ _⟩
theorem rname_1 (w : World) : Calls Tryd.prog 12 #[.int .i64 1] w fun e w' => e = .returned (.string (nameOf 1)) ∧ Below w.heap.size w w' := by
  go_enter Tryd.func12, Tryd.ntmps12
  go_wp2_with fail
  go_ret
  exact ⟨rfl, below_alloc _ _⟩
theorem rname_2 (w : World) : Calls Tryd.prog 12 #[.int .i64 2] w fun e w' => e = .returned (.string (nameOf 2)) ∧ Below w.heap.size w w' := by
  go_enter Tryd.func12, Tryd.ntmps12
  go_wp2_with fail
  go_ret
  exact ⟨rfl, below_alloc _ _⟩
theorem rname_3 (w : World) : Calls Tryd.prog 12 #[.int .i64 3] w fun e w' => e = .returned (.string (nameOf 3)) ∧ Below w.heap.size w w' := by
  go_enter Tryd.func12, Tryd.ntmps12
  go_wp2_with fail
  go_ret
  exact ⟨rfl, below_alloc _ _⟩
theorem rname_4 (w : World) : Calls Tryd.prog 12 #[.int .i64 4] w fun e w' => e = .returned (.string (nameOf 4)) ∧ Below w.heap.size w w' := by
  go_enter Tryd.func12, Tryd.ntmps12
  go_wp2_with fail
  go_ret
  exact ⟨rfl, below_alloc _ _⟩
theorem rname_5 (w : World) : Calls Tryd.prog 12 #[.int .i64 5] w fun e w' => e = .returned (.string (nameOf 5)) ∧ Below w.heap.size w w' := by
  go_enter Tryd.func12, Tryd.ntmps12
  go_wp2_with fail
  go_ret
  exact ⟨rfl, below_alloc _ _⟩
theorem rname_ok (c : Int) (w : World) (h : isCal c) : Calls Tryd.prog 12 #[.int .i64 c] w fun e w' => e = .returned (.string (nameOf c)) ∧ Below w.heap.size w w' := by
  unfold isCal at h
  have hc : c = 1 ∨ c = 2 ∨ c = 3 ∨ c = 4 ∨ c = 5 := by omega
  rcases hc with rfl | rfl | rfl | rfl | rfl
  · exact rname_1 w
  · exact rname_2 w
  · exact rname_3 w
  · exact rname_4 w
  · exact rname_5 w
theorem nameOf_some {c : Int} (h : isCal c) : (nameOf c).toList.isEmpty = false ∧ ¬ (nameOf c).toList = [] := by
  unfold isCal at h
  have hc : c = 1 ∨ c = 2 ∨ c = 3 ∨ c = 4 ∨ c = 5 := by omega
  rw [Lib.toList_data]
  rcases hc with rfl | rfl | rfl | rfl | rfl <;> decide
theorem rname_any (c : Int) (h : isCal c) : ∃ s : ByteArray, (s.toList.isEmpty = false ∧ ¬ s.toList = []) ∧ ∀ W, Calls Tryd.prog 12 #[.int .i64 c] W fun e w' => e = .returned (.string s) ∧ Below W.heap.size W w' :=
  ⟨nameOf c, nameOf_some h, fun W => rname_ok c W h⟩
theorem inRange_yes (y : Int) (w : World) (h0 : -9999 ≤ y) (h1 : y ≤ 9999) : Calls Tryd.prog 43 #[.int .i64 y] w fun e w' => e = .returned (.bool true) ∧ w = w' := by
  go_enter Tryd.func43, Tryd.ntmps43
  go_wp2_with fail
  go_ret
  exact ⟨rfl, rfl⟩
theorem inRange_no (y : Int) (w : World) (h : ¬ (-9999 ≤ y ∧ y ≤ 9999)) : Calls Tryd.prog 43 #[.int .i64 y] w fun e w' => e = .returned (.bool false) ∧ w = w' := by
  by_cases h0 : -9999 ≤ y
  · have h1 : decide (y ≤ 9999) = false := by simp; omega
    have h0' : decide (-9999 ≤ y) = true := by simp; omega
    clear h
    go_enter Tryd.func43, Tryd.ntmps43
    go_wp2_with fail
    go_ret
    exact ⟨rfl, rfl⟩
  · have h0' : decide (-9999 ≤ y) = false := by simp; omega
    clear h h0
    go_enter Tryd.func43, Tryd.ntmps43
    go_wp2_with fail
    go_ret
    exact ⟨rfl, rfl⟩

theorem tmod_zero (y n : Int) : (y.tmod n == 0) = decide (y % n = 0) := by
  rw [Bool.eq_iff_iff, beq_iff_eq, decide_eq_true_iff, ← Int.dvd_iff_tmod_eq_zero, Int.dvd_iff_emod_eq_zero]
theorem tmod_ne (y n : Int) : (y.tmod n != 0) = !decide (y % n = 0) := by rw [bne, tmod_zero]
theorem rleap1_400 (y : Int) (w : World) (h : (y.tmod 400 == 0) = true) : Calls Tryd.prog 55 #[.int .i64 1, .int .i64 y] w fun e w' => e = .returned (.bool true) ∧ w = w' := by
  go_enter Tryd.func55, Tryd.ntmps55
  go_wp2_with fail
  go_ret
  exact ⟨rfl, rfl⟩
theorem rleap1_n4 (y : Int) (w : World) (h : (y.tmod 400 == 0) = false) (h4 : (y.tmod 4 == 0) = false) : Calls Tryd.prog 55 #[.int .i64 1, .int .i64 y] w fun e w' => e = .returned (.bool false) ∧ w = w' := by
  go_enter Tryd.func55, Tryd.ntmps55
  go_wp2_with fail
  go_ret
  exact ⟨rfl, rfl⟩
theorem rleap1_100 (y : Int) (w : World) (h : (y.tmod 400 == 0) = false) (h4 : (y.tmod 4 == 0) = true) (hh : (y.tmod 100 != 0) = false) : Calls Tryd.prog 55 #[.int .i64 1, .int .i64 y] w fun e w' => e = .returned (.bool false) ∧ w = w' := by
  go_enter Tryd.func55, Tryd.ntmps55
  go_wp2_with fail
  go_ret
  exact ⟨rfl, rfl⟩
theorem rleap1_4 (y : Int) (w : World) (h : (y.tmod 400 == 0) = false) (h4 : (y.tmod 4 == 0) = true) (hh : (y.tmod 100 != 0) = true) : Calls Tryd.prog 55 #[.int .i64 1, .int .i64 y] w fun e w' => e = .returned (.bool true) ∧ w = w' := by
  go_enter Tryd.func55, Tryd.ntmps55
  go_wp2_with fail
  go_ret
  exact ⟨rfl, rfl⟩
theorem rleap2_y (y : Int) (w : World) (h4 : (y.tmod 4 == 0) = true) : Calls Tryd.prog 55 #[.int .i64 2, .int .i64 y] w fun e w' => e = .returned (.bool true) ∧ w = w' := by
  go_enter Tryd.func55, Tryd.ntmps55
  go_wp2_with fail
  go_ret
  exact ⟨rfl, rfl⟩
theorem rleap2_n (y : Int) (w : World) (h4 : (y.tmod 4 == 0) = false) : Calls Tryd.prog 55 #[.int .i64 2, .int .i64 y] w fun e w' => e = .returned (.bool false) ∧ w = w' := by
  go_enter Tryd.func55, Tryd.ntmps55
  go_wp2_with fail
  go_ret
  exact ⟨rfl, rfl⟩
theorem rleap3 (y : Int) (w : World)  : Calls Tryd.prog 55 #[.int .i64 3, .int .i64 y] w fun e w' => e = .returned (.bool false) ∧ w = w' := by
  go_enter Tryd.func55, Tryd.ntmps55
  go_wp2_with fail
  go_ret
  exact ⟨rfl, rfl⟩
theorem rleap4 (y : Int) (w : World)  : Calls Tryd.prog 55 #[.int .i64 4, .int .i64 y] w fun e w' => e = .returned (.bool true) ∧ w = w' := by
  go_enter Tryd.func55, Tryd.ntmps55
  go_wp2_with fail
  go_ret
  exact ⟨rfl, rfl⟩
theorem rleap5 (y : Int) (w : World)  : Calls Tryd.prog 55 #[.int .i64 5, .int .i64 y] w fun e w' => e = .returned (.bool false) ∧ w = w' := by
  go_enter Tryd.func55, Tryd.ntmps55
  go_wp2_with fail
  go_ret
  exact ⟨rfl, rfl⟩
theorem rleap_any (c y : Int) (w : World) (h : isCal c) : Calls Tryd.prog 55 #[.int .i64 c, .int .i64 y] w fun e w' => e = .returned (.bool (lp c y)) ∧ w = w' := by
  unfold isCal at h
  have hc : c = 1 ∨ c = 2 ∨ c = 3 ∨ c = 4 ∨ c = 5 := by omega
  rcases hc with rfl | rfl | rfl | rfl | rfl
  · have a := tmod_zero y 400
    have b := tmod_zero y 4
    have d := tmod_ne y 100
    by_cases h400 : y % 400 = 0
    · rw [show lp 1 y = true by simp [lp, h400]]; exact rleap1_400 y w (by rw [a]; simpa using h400)
    · by_cases h4 : y % 4 = 0
      · by_cases h100 : y % 100 = 0
        · rw [show lp 1 y = false by simp [lp, h400, h4, h100]]; exact rleap1_100 y w (by rw [a]; simpa using h400) (by rw [b]; simpa using h4) (by rw [d]; simpa using h100)
        · rw [show lp 1 y = true by simp [lp, h4, h100]]; exact rleap1_4 y w (by rw [a]; simpa using h400) (by rw [b]; simpa using h4) (by rw [d]; simpa using h100)
      · rw [show lp 1 y = false by simp [lp, h400, h4]]; exact rleap1_n4 y w (by rw [a]; simpa using h400) (by rw [b]; simpa using h4)
  · have b := tmod_zero y 4
    by_cases h4 : y % 4 = 0
    · rw [show lp 2 y = true by simp [lp, h4]]; exact rleap2_y y w (by rw [b]; simpa using h4)
    · rw [show lp 2 y = false by simp [lp, h4]]; exact rleap2_n y w (by rw [b]; simpa using h4)
  · rw [show lp 3 y = false by simp [lp]]; exact rleap3 y w
  · rw [show lp 4 y = true by simp [lp]]; exact rleap4 y w
  · rw [show lp 5 y = false by simp [lp]]; exact rleap5 y w

theorem rdays5 (y m : Int) (w : World) : Calls Tryd.prog 44 #[.int .i64 5, .int .i64 y, .int .i64 m] w fun e w' => e = .returned (.int .i64 30) ∧ w = w' := by
  go_enter Tryd.func44, Tryd.ntmps44
  go_wp2_with fail
  go_ret
  exact ⟨rfl, rfl⟩
theorem rdays2 (c y : Int) (u : Bool) (w : World) (h5 : (c == 5) = false) (hl : Hid (∀ W, Calls Tryd.prog 55 #[.int .i64 c, .int .i64 y] W fun e w' => e = .returned (.bool u) ∧ W = w')) : Calls Tryd.prog 44 #[.int .i64 c, .int .i64 y, .int .i64 2] w fun e w' => e = .returned (.int .i64 (if u then 29 else 28)) ∧ w = w' := by
  go_enter Tryd.func44, Tryd.ntmps44
  go_wp2_with fail
  refine (hl.out _).mono ?_
  rintro e w2 ⟨rfl, rfl⟩
  cases u
  all_goals
    go_wp2_with fail
    go_ret
    exact ⟨rfl, rfl⟩
theorem rdays_1 (c y : Int) (w : World) (h5 : (c == 5) = false) : Calls Tryd.prog 44 #[.int .i64 c, .int .i64 y, .int .i64 1] w fun e w' => e = .returned (.int .i64 31) ∧ w = w' := by
  go_enter Tryd.func44, Tryd.ntmps44
  go_wp2_with fail
  go_ret
  exact ⟨rfl, rfl⟩
theorem rdays_3 (c y : Int) (w : World) (h5 : (c == 5) = false) : Calls Tryd.prog 44 #[.int .i64 c, .int .i64 y, .int .i64 3] w fun e w' => e = .returned (.int .i64 31) ∧ w = w' := by
  go_enter Tryd.func44, Tryd.ntmps44
  go_wp2_with fail
  go_ret
  exact ⟨rfl, rfl⟩
theorem rdays_4 (c y : Int) (w : World) (h5 : (c == 5) = false) : Calls Tryd.prog 44 #[.int .i64 c, .int .i64 y, .int .i64 4] w fun e w' => e = .returned (.int .i64 30) ∧ w = w' := by
  go_enter Tryd.func44, Tryd.ntmps44
  go_wp2_with fail
  go_ret
  exact ⟨rfl, rfl⟩
theorem rdays_5 (c y : Int) (w : World) (h5 : (c == 5) = false) : Calls Tryd.prog 44 #[.int .i64 c, .int .i64 y, .int .i64 5] w fun e w' => e = .returned (.int .i64 31) ∧ w = w' := by
  go_enter Tryd.func44, Tryd.ntmps44
  go_wp2_with fail
  go_ret
  exact ⟨rfl, rfl⟩
theorem rdays_6 (c y : Int) (w : World) (h5 : (c == 5) = false) : Calls Tryd.prog 44 #[.int .i64 c, .int .i64 y, .int .i64 6] w fun e w' => e = .returned (.int .i64 30) ∧ w = w' := by
  go_enter Tryd.func44, Tryd.ntmps44
  go_wp2_with fail
  go_ret
  exact ⟨rfl, rfl⟩
theorem rdays_7 (c y : Int) (w : World) (h5 : (c == 5) = false) : Calls Tryd.prog 44 #[.int .i64 c, .int .i64 y, .int .i64 7] w fun e w' => e = .returned (.int .i64 31) ∧ w = w' := by
  go_enter Tryd.func44, Tryd.ntmps44
  go_wp2_with fail
  go_ret
  exact ⟨rfl, rfl⟩
theorem rdays_8 (c y : Int) (w : World) (h5 : (c == 5) = false) : Calls Tryd.prog 44 #[.int .i64 c, .int .i64 y, .int .i64 8] w fun e w' => e = .returned (.int .i64 31) ∧ w = w' := by
  go_enter Tryd.func44, Tryd.ntmps44
  go_wp2_with fail
  go_ret
  exact ⟨rfl, rfl⟩
theorem rdays_9 (c y : Int) (w : World) (h5 : (c == 5) = false) : Calls Tryd.prog 44 #[.int .i64 c, .int .i64 y, .int .i64 9] w fun e w' => e = .returned (.int .i64 30) ∧ w = w' := by
  go_enter Tryd.func44, Tryd.ntmps44
  go_wp2_with fail
  go_ret
  exact ⟨rfl, rfl⟩
theorem rdays_10 (c y : Int) (w : World) (h5 : (c == 5) = false) : Calls Tryd.prog 44 #[.int .i64 c, .int .i64 y, .int .i64 10] w fun e w' => e = .returned (.int .i64 31) ∧ w = w' := by
  go_enter Tryd.func44, Tryd.ntmps44
  go_wp2_with fail
  go_ret
  exact ⟨rfl, rfl⟩
theorem rdays_11 (c y : Int) (w : World) (h5 : (c == 5) = false) : Calls Tryd.prog 44 #[.int .i64 c, .int .i64 y, .int .i64 11] w fun e w' => e = .returned (.int .i64 30) ∧ w = w' := by
  go_enter Tryd.func44, Tryd.ntmps44
  go_wp2_with fail
  go_ret
  exact ⟨rfl, rfl⟩
theorem rdays_12 (c y : Int) (w : World) (h5 : (c == 5) = false) : Calls Tryd.prog 44 #[.int .i64 c, .int .i64 y, .int .i64 12] w fun e w' => e = .returned (.int .i64 31) ∧ w = w' := by
  go_enter Tryd.func44, Tryd.ntmps44
  go_wp2_with fail
  go_ret
  exact ⟨rfl, rfl⟩
theorem rdays_any (c y m : Int) (w : World) (h : isCal c) (m0 : 1 ≤ m) (m1 : m ≤ 12) : Calls Tryd.prog 44 #[.int .i64 c, .int .i64 y, .int .i64 m] w fun e w' => e = .returned (.int .i64 (dm c y m)) ∧ w = w' := by
  by_cases h5 : c = 5
  · subst h5; rw [show dm 5 y m = 30 by simp [dm]]; exact rdays5 y m w
  · have h5' : (c == 5) = false := by simpa using h5
    have hm : m = 1 ∨ m = 2 ∨ m = 3 ∨ m = 4 ∨ m = 5 ∨ m = 6 ∨ m = 7 ∨ m = 8 ∨ m = 9 ∨ m = 10 ∨ m = 11 ∨ m = 12 := by omega
    rcases hm with rfl | rfl | rfl | rfl | rfl | rfl | rfl | rfl | rfl | rfl | rfl | rfl
    · rw [show dm c y 1 = 31 by simp [dm, h5]]; exact rdays_1 c y w h5'
    · rw [show dm c y 2 = if lp c y then 29 else 28 by simp only [dm, h5, lpn, if_false, if_true]; cases lp c y <;> simp]; exact rdays2 c y (lp c y) w h5' (Lib.hid fun W => rleap_any c y W h)
    · rw [show dm c y 3 = 31 by simp [dm, h5]]; exact rdays_3 c y w h5'
    · rw [show dm c y 4 = 30 by simp [dm, h5]]; exact rdays_4 c y w h5'
    · rw [show dm c y 5 = 31 by simp [dm, h5]]; exact rdays_5 c y w h5'
    · rw [show dm c y 6 = 30 by simp [dm, h5]]; exact rdays_6 c y w h5'
    · rw [show dm c y 7 = 31 by simp [dm, h5]]; exact rdays_7 c y w h5'
    · rw [show dm c y 8 = 31 by simp [dm, h5]]; exact rdays_8 c y w h5'
    · rw [show dm c y 9 = 30 by simp [dm, h5]]; exact rdays_9 c y w h5'
    · rw [show dm c y 10 = 31 by simp [dm, h5]]; exact rdays_10 c y w h5'
    · rw [show dm c y 11 = 30 by simp [dm, h5]]; exact rdays_11 c y w h5'
    · rw [show dm c y 12 = 31 by simp [dm, h5]]; exact rdays_12 c y w h5'

end Go.Proofs.YthpeaeepcbbfcaaDoor
