/- The rules of a calendar as one value; rulesOf. -/
import Derived.Test.YthpeaeepcbbfcaaDoorD
namespace Go.Proofs.YthpeaeepcbbfcaaDoor
open Go.RowKit

theorem below_alloc (w : World) (o : Obj) : Below w.heap.size w (w.alloc o) := (Below.refl _ _).alloc (Nat.le_refl _) _

/-- A value that is the rules of calendar c. -/
structure IsRules (c : Int) (r : Value) : Prop where
  cal : isCal c
  form : ∃ (m0 m1 m2 m3 m4 m5 m6 m7 m8 m9 m10 m11 : Int) (f : FuncId), r = .agg #[.int .i64 m0, .int .i64 m1, .int .i64 m2, .int .i64 m3, .int .i64 m4, .int .i64 m5, .int .i64 m6, .int .i64 m7, .int .i64 m8, .int .i64 m9, .int .i64 m10, .int .i64 m11, .func (.func f) #[] #[]]
  leap : ∀ (y : Int) (w : World), -10000 ≤ y → y ≤ 10000 → Calls Tryd.prog 35 #[r, .int .i64 y] w fun e w' => e = .returned (.bool (lp c y)) ∧ Below w.heap.size w w'
  start : ∀ (y : Int) (w : World), -10000 ≤ y → y ≤ 10000 → Calls Tryd.prog 46 #[r, .int .i64 y] w fun e w' => e = .returned (.int .i64 (start c y)) ∧ Below w.heap.size w w'
  days : ∀ (y m : Int) (w : World), -10000 ≤ y → y ≤ 10000 → 1 ≤ m → m ≤ 12 → Calls Tryd.prog 26 #[r, .int .i64 y, .int .i64 m] w fun e w' => e = .returned (.int .i64 (dm c y m)) ∧ Below w.heap.size w w'

theorem rules1 : IsRules 1 (.agg #[.int .i64 31, .int .i64 28, .int .i64 31, .int .i64 30, .int .i64 31, .int .i64 30, .int .i64 31, .int .i64 31, .int .i64 30, .int .i64 31, .int .i64 30, .int .i64 31, .func (.func 20) #[] #[]]) where
  cal := by unfold isCal; omega
  form := ⟨_, _, _, _, _, _, _, _, _, _, _, _, _, rfl⟩
  leap := fun y w h0 h1 => leap_gen 31 28 31 30 31 30 31 31 30 31 30 31 20 1 y w (Lib.hid counts1) h0 h1
  start := fun y w h0 h1 => (start_false 20 1 y w (Lib.hid counts1) h0 h1).mono fun e w' ⟨h, hw⟩ => ⟨h, by rw [hw]; exact below_alloc _ _⟩
  days := fun y m w h0 h1 m0 m1 => by
    have hm : m = 1 ∨ m = 2 ∨ m = 3 ∨ m = 4 ∨ m = 5 ∨ m = 6 ∨ m = 7 ∨ m = 8 ∨ m = 9 ∨ m = 10 ∨ m = 11 ∨ m = 12 := by omega
    rcases hm with rfl | rfl | rfl | rfl | rfl | rfl | rfl | rfl | rfl | rfl | rfl | rfl
    · exact days_false_1 20 y w
    · refine (days_false_2 20 1 y w (Lib.hid counts1) h0 h1 (lp 1 y) (Lib.hid rfl)).mono fun e w' ⟨h, hb⟩ => ⟨h.trans (ret_int (by simp only [dm, lpn]; cases lp 1 y <;> simp)), hb⟩
    · exact days_false_3 20 y w
    · exact days_false_4 20 y w
    · exact days_false_5 20 y w
    · exact days_false_6 20 y w
    · exact days_false_7 20 y w
    · exact days_false_8 20 y w
    · exact days_false_9 20 y w
    · exact days_false_10 20 y w
    · exact days_false_11 20 y w
    · exact days_false_12 20 y w

theorem rules2 : IsRules 2 (.agg #[.int .i64 31, .int .i64 28, .int .i64 31, .int .i64 30, .int .i64 31, .int .i64 30, .int .i64 31, .int .i64 31, .int .i64 30, .int .i64 31, .int .i64 30, .int .i64 31, .func (.func 22) #[] #[]]) where
  cal := by unfold isCal; omega
  form := ⟨_, _, _, _, _, _, _, _, _, _, _, _, _, rfl⟩
  leap := fun y w h0 h1 => leap_gen 31 28 31 30 31 30 31 31 30 31 30 31 22 2 y w (Lib.hid counts2) h0 h1
  start := fun y w h0 h1 => (start_false 22 2 y w (Lib.hid counts2) h0 h1).mono fun e w' ⟨h, hw⟩ => ⟨h, by rw [hw]; exact below_alloc _ _⟩
  days := fun y m w h0 h1 m0 m1 => by
    have hm : m = 1 ∨ m = 2 ∨ m = 3 ∨ m = 4 ∨ m = 5 ∨ m = 6 ∨ m = 7 ∨ m = 8 ∨ m = 9 ∨ m = 10 ∨ m = 11 ∨ m = 12 := by omega
    rcases hm with rfl | rfl | rfl | rfl | rfl | rfl | rfl | rfl | rfl | rfl | rfl | rfl
    · exact days_false_1 22 y w
    · refine (days_false_2 22 2 y w (Lib.hid counts2) h0 h1 (lp 2 y) (Lib.hid rfl)).mono fun e w' ⟨h, hb⟩ => ⟨h.trans (ret_int (by simp only [dm, lpn]; cases lp 2 y <;> simp)), hb⟩
    · exact days_false_3 22 y w
    · exact days_false_4 22 y w
    · exact days_false_5 22 y w
    · exact days_false_6 22 y w
    · exact days_false_7 22 y w
    · exact days_false_8 22 y w
    · exact days_false_9 22 y w
    · exact days_false_10 22 y w
    · exact days_false_11 22 y w
    · exact days_false_12 22 y w

theorem rules3 : IsRules 3 (.agg #[.int .i64 31, .int .i64 28, .int .i64 31, .int .i64 30, .int .i64 31, .int .i64 30, .int .i64 31, .int .i64 31, .int .i64 30, .int .i64 31, .int .i64 30, .int .i64 31, .func (.func 19) #[] #[]]) where
  cal := by unfold isCal; omega
  form := ⟨_, _, _, _, _, _, _, _, _, _, _, _, _, rfl⟩
  leap := fun y w h0 h1 => leap_gen 31 28 31 30 31 30 31 31 30 31 30 31 19 3 y w (Lib.hid counts3) h0 h1
  start := fun y w h0 h1 => (start_false 19 3 y w (Lib.hid counts3) h0 h1).mono fun e w' ⟨h, hw⟩ => ⟨h, by rw [hw]; exact below_alloc _ _⟩
  days := fun y m w h0 h1 m0 m1 => by
    have hm : m = 1 ∨ m = 2 ∨ m = 3 ∨ m = 4 ∨ m = 5 ∨ m = 6 ∨ m = 7 ∨ m = 8 ∨ m = 9 ∨ m = 10 ∨ m = 11 ∨ m = 12 := by omega
    rcases hm with rfl | rfl | rfl | rfl | rfl | rfl | rfl | rfl | rfl | rfl | rfl | rfl
    · exact days_false_1 19 y w
    · refine (days_false_2 19 3 y w (Lib.hid counts3) h0 h1 (lp 3 y) (Lib.hid rfl)).mono fun e w' ⟨h, hb⟩ => ⟨h.trans (ret_int (by simp only [dm, lpn, lp]; simp)), hb⟩
    · exact days_false_3 19 y w
    · exact days_false_4 19 y w
    · exact days_false_5 19 y w
    · exact days_false_6 19 y w
    · exact days_false_7 19 y w
    · exact days_false_8 19 y w
    · exact days_false_9 19 y w
    · exact days_false_10 19 y w
    · exact days_false_11 19 y w
    · exact days_false_12 19 y w

theorem rules4 : IsRules 4 (.agg #[.int .i64 31, .int .i64 28, .int .i64 31, .int .i64 30, .int .i64 31, .int .i64 30, .int .i64 31, .int .i64 31, .int .i64 30, .int .i64 31, .int .i64 30, .int .i64 31, .func (.func 23) #[] #[]]) where
  cal := by unfold isCal; omega
  form := ⟨_, _, _, _, _, _, _, _, _, _, _, _, _, rfl⟩
  leap := fun y w h0 h1 => leap_gen 31 28 31 30 31 30 31 31 30 31 30 31 23 4 y w (Lib.hid counts4) h0 h1
  start := fun y w h0 h1 => (start_false 23 4 y w (Lib.hid counts4) h0 h1).mono fun e w' ⟨h, hw⟩ => ⟨h, by rw [hw]; exact below_alloc _ _⟩
  days := fun y m w h0 h1 m0 m1 => by
    have hm : m = 1 ∨ m = 2 ∨ m = 3 ∨ m = 4 ∨ m = 5 ∨ m = 6 ∨ m = 7 ∨ m = 8 ∨ m = 9 ∨ m = 10 ∨ m = 11 ∨ m = 12 := by omega
    rcases hm with rfl | rfl | rfl | rfl | rfl | rfl | rfl | rfl | rfl | rfl | rfl | rfl
    · exact days_false_1 23 y w
    · refine (days_false_2 23 4 y w (Lib.hid counts4) h0 h1 (lp 4 y) (Lib.hid rfl)).mono fun e w' ⟨h, hb⟩ => ⟨h.trans (ret_int (by simp only [dm, lpn, lp]; simp)), hb⟩
    · exact days_false_3 23 y w
    · exact days_false_4 23 y w
    · exact days_false_5 23 y w
    · exact days_false_6 23 y w
    · exact days_false_7 23 y w
    · exact days_false_8 23 y w
    · exact days_false_9 23 y w
    · exact days_false_10 23 y w
    · exact days_false_11 23 y w
    · exact days_false_12 23 y w

theorem rules5 : IsRules 5 (.agg #[.int .i64 30, .int .i64 30, .int .i64 30, .int .i64 30, .int .i64 30, .int .i64 30, .int .i64 30, .int .i64 30, .int .i64 30, .int .i64 30, .int .i64 30, .int .i64 30, .func (.func 19) #[] #[]]) where
  cal := by unfold isCal; omega
  form := ⟨_, _, _, _, _, _, _, _, _, _, _, _, _, rfl⟩
  leap := fun y w h0 h1 => leap_gen 30 30 30 30 30 30 30 30 30 30 30 30 19 5 y w (Lib.hid counts5) h0 h1
  start := fun y w h0 h1 => (start_true 19 5 y w (Lib.hid counts5) h0 h1).mono fun e w' ⟨h, hw⟩ => ⟨h, by rw [hw]; exact below_alloc _ _⟩
  days := fun y m w h0 h1 m0 m1 => by
    have hm : m = 1 ∨ m = 2 ∨ m = 3 ∨ m = 4 ∨ m = 5 ∨ m = 6 ∨ m = 7 ∨ m = 8 ∨ m = 9 ∨ m = 10 ∨ m = 11 ∨ m = 12 := by omega
    rcases hm with rfl | rfl | rfl | rfl | rfl | rfl | rfl | rfl | rfl | rfl | rfl | rfl
    · exact days_true_1 19 y w
    · refine (days_true_2 19 5 y w (Lib.hid counts5) h0 h1 (lp 5 y) (Lib.hid rfl)).mono fun e w' ⟨h, hb⟩ => ⟨h.trans (ret_int (by simp only [dm, lpn, lp]; simp)), hb⟩
    · exact days_true_3 19 y w
    · exact days_true_4 19 y w
    · exact days_true_5 19 y w
    · exact days_true_6 19 y w
    · exact days_true_7 19 y w
    · exact days_true_8 19 y w
    · exact days_true_9 19 y w
    · exact days_true_10 19 y w
    · exact days_true_11 19 y w
    · exact days_true_12 19 y w

end Go.Proofs.YthpeaeepcbbfcaaDoor
