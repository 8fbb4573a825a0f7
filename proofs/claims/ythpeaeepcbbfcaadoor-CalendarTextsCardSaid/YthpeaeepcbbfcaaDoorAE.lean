/- part, cycle, first, number of the document. -/
import Derived.Test.YthpeaeepcbbfcaaDoorAD
namespace Go.Proofs.YthpeaeepcbbfcaaDoor
open Go.RowKit

theorem ret2ii {a b c d : Int} (h : a = c) (k : b = d) : Ending.returned (.tuple #[.int .i64 a, .int .i64 b]) = .returned (.tuple #[.int .i64 c, .int .i64 d]) := by rw [h, k]
theorem tparts (n b : Int) (hb : 1 ≤ b) : n = b * n.tdiv b + n.tmod b ∧ -b < n.tmod b ∧ n.tmod b < b := by
  refine ⟨(Int.mul_tdiv_add_tmod n b).symm, ?_, Int.tmod_lt_of_pos n (by omega)⟩
  have := Int.tmod_lt_of_pos (-n) (show 0 < b by omega)
  rw [Int.neg_tmod] at this
  omega
theorem tdiv_bd (n b : Int) (h0 : -10000000 ≤ n) (h1 : n ≤ 10000000) : -10000000 ≤ n.tdiv b ∧ n.tdiv b ≤ 10000000 := by
  have h : (n.tdiv b).natAbs ≤ n.natAbs := by rw [Int.natAbs_tdiv]; exact Nat.div_le_self _ _
  omega
theorem part_up {n b q r : Int} (h : n = b * q + r) (h0 : 0 ≤ r) (h1 : r < b) : q = n / b ∧ r = n % b := by
  have := (Int.ediv_emod_unique (show 0 < b by omega)).2 ⟨show r + b * q = n by omega, h0, h1⟩
  exact ⟨this.1.symm, this.2.symm⟩
theorem part_down {n b q r : Int} (h : n = b * q + r) (h0 : r < 0) (h1 : -b < r) : q - 1 = n / b ∧ r + b = n % b :=
  part_up (b := b) (q := q - 1) (r := r + b) (by rw [h, Int.mul_sub]; omega) (by omega) (by omega)

theorem cycle_bd (c : Int) : 144000 ≤ start c 400 ∧ start c 400 ≤ 146400 := by
  have := start_mono c 0 400 (by omega)
  have := lps_bd c 400
  unfold start at *
  split <;> omega
theorem split_1 (q r : Int) : start 1 (400 * q + r) = q * 146097 + start 1 r := by
  simp [start, lps, mul]; omega
theorem cyc_1 : start 1 400 = 146097 := by decide
theorem split_2 (q r : Int) : start 2 (400 * q + r) = q * 146100 + start 2 r := by
  simp [start, lps, mul]; omega
theorem cyc_2 : start 2 400 = 146100 := by decide
theorem split_3 (q r : Int) : start 3 (400 * q + r) = q * 146000 + start 3 r := by
  simp [start, lps, mul]; omega
theorem cyc_3 : start 3 400 = 146000 := by decide
theorem split_4 (q r : Int) : start 4 (400 * q + r) = q * 146400 + start 4 r := by
  simp [start, lps, mul]; omega
theorem cyc_4 : start 4 400 = 146400 := by decide
theorem split_5 (q r : Int) : start 5 (400 * q + r) = q * 144000 + start 5 r := by
  simp [start, lps, mul]; omega
theorem cyc_5 : start 5 400 = 144000 := by decide
theorem start_split (c q r : Int) (h : isCal c) : start c (400 * q + r) = q * start c 400 + start c r := by
  unfold isCal at h
  have hc : c = 1 ∨ c = 2 ∨ c = 3 ∨ c = 4 ∨ c = 5 := by omega
  rcases hc with rfl | rfl | rfl | rfl | rfl
  · rw [cyc_1, split_1]
  · rw [cyc_2, split_2]
  · rw [cyc_3, split_3]
  · rw [cyc_4, split_4]
  · rw [cyc_5, split_5]
theorem first_eq (c y : Int) (h : isCal c) : start c y = y / 400 * start c 400 + start c (y % 400) := by
  rw [← start_split c _ _ h, Int.mul_ediv_add_emod]
theorem cyc_mul {k q : Int} (h0 : 144000 ≤ k) (h1 : k ≤ 146400) (q0 : -30 ≤ q) (q1 : q ≤ 30) : -5000000 ≤ q * k ∧ q * k ≤ 5000000 := by
  have a := Int.mul_nonneg (show 0 ≤ q + 30 by omega) (show 0 ≤ k by omega)
  have b := Int.mul_nonneg (show 0 ≤ 30 - q by omega) (show 0 ≤ k by omega)
  rw [Int.add_mul] at a
  rw [Int.sub_mul] at b
  omega

end Go.Proofs.YthpeaeepcbbfcaaDoor
