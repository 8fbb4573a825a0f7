/- part, cycle, first, number of the document. -/
import Derived.Test.YthpeaeepcbbfcaaAD
namespace Go.Proofs.Ythpeaeepcbbfcaa
open Go.RowKit

theorem ret2ii {a b c d : Int} (h : a = c) (k : b = d) : Ending.returned (.tuple #[.int .i64 a, .int .i64 b]) = .returned (.tuple #[.int .i64 c, .int .i64 d]) := by rw [h, k]
theorem tparts (n b : Int) (hb : 1 ≤ b) : n = b * n.tdiv b + n.tmod b ∧ -b < n.tmod b ∧ n.tmod b < b := by
  refine ⟨(Int.mul_tdiv_add_tmod n b).symm, ?_, Int.tmod_lt_of_pos n (by omega)⟩
  have := Int.tmod_lt_of_pos (-n) (show 0 < b by omega)
  rw [Int.neg_tmod] at this
  omega
theorem tdiv_bd (n b : Int) (h0 : -10000000 ≤ n) (h1 : n ≤ 10000000) : -10000000 ≤ n.tdiv b ∧ n.tdiv b ≤ 10000000 := by
  have h : (n.tdiv b).natAbs ≤ n.natAbs := by rw [Int.natAbs_tdiv]; exact Nat.div_le_self _ _
  omega
theorem part_up {n b q r : Int} (h : n = b * q + r) (h0 : 0 ≤ r) (h1 : r < b) : q = n / b ∧ r = n % b := by
  have := (Int.ediv_emod_unique (show 0 < b by omega)).2 ⟨show r + b * q = n by omega, h0, h1⟩
  exact ⟨this.1.symm, this.2.symm⟩
theorem part_down {n b q r : Int} (h : n = b * q + r) (h0 : r < 0) (h1 : -b < r) : q - 1 = n / b ∧ r + b = n % b :=
  part_up (b := b) (q := q - 1) (r := r + b) (by rw [h, Int.mul_sub]; omega) (by omega) (by omega)

set_option maxRecDepth 100000 in
set_option maxHeartbeats 800000 in
theorem part_any (n b : Int) (w : World) (n0 : -10000000 ≤ n) (n1 : n ≤ 10000000) (b0 : 1 ≤ b) (b1 : b ≤ 200000) : Calls Try.prog 62 #[.int .i64 n, .int .i64 b] w fun e w' => e = .returned (.tuple #[.int .i64 (n / b), .int .i64 (n % b)]) ∧ Below w.heap.size w w' := by
  obtain ⟨h, r0, r1⟩ := tparts n b b0
  obtain ⟨q0, q1⟩ := tdiv_bd n b n0 n1
  have H := Lib.hid h
  clear h
  by_cases hneg : n.tmod b < 0
  · obtain ⟨e1, e2⟩ := part_down H.out hneg r0
    have E1 := Lib.hid e1
    have E2 := Lib.hid e2
    clear e1 e2
    go_enter Try.func62, Try.ntmps62
    go_wp2_with fail
    go_quiet (fail)
    generalize n.tdiv b = q at *
    generalize n.tmod b = r at *
    go_wp2_with fail
    go_ret2
    exact ⟨ret2ii E1.out E2.out, below_drewN (Below.refl _ _) _⟩
  · obtain ⟨e1, e2⟩ := part_up H.out (by omega) r1
    have E1 := Lib.hid e1
    have E2 := Lib.hid e2
    clear e1 e2
    go_enter Try.func62, Try.ntmps62
    go_wp2_with fail
    go_quiet (fail)
    generalize n.tdiv b = q at *
    generalize n.tmod b = r at *
    go_wp2_with fail
    go_ret2
    exact ⟨ret2ii E1.out E2.out, below_drewN (Below.refl _ _) _⟩

set_option maxHeartbeats 800000 in
theorem cycle_any (c : Int) (w : World) (h : isCal c) : Calls Try.prog 79 #[.int .i64 c] w fun e w' => e = .returned (.int .i64 (start c 400)) ∧ w = w' := by
  have hd := Lib.hid (fun y W => rlength_any c y W h)
  clear h
  go_enter Try.func79, Try.ntmps79
  go_wp2_with fail
  go_loop [3, 4] (fun t k => ∃ y : Int, 0 ≤ y ∧ y ≤ 400 ∧ k = .int .i64 y ∧ t = .int .i64 (start c y)) (fun _ k => (400 - intOf k).toNat)
  case atStart => exact ⟨0, by omega, by omega, rfl, by rw [start_zero]⟩
  case round =>
    obtain ⟨y, y0, y1, rfl, rfl⟩ := hrel
    obtain ⟨q0, q1⟩ := start_bd c y (by omega) (by omega)
    obtain ⟨q2, q3⟩ := len_bd c y
    by_cases hlt : y < 400
    · have hcs := Lib.hid (start_succ c y)
      go_wp2_with fail
      refine (hd.out y _).mono ?_
      rintro e w2 ⟨rfl, rfl⟩
      go_wp2_with fail
      go_round
      case rel => exact ⟨y + 1, by omega, by omega, rfl, by rw [hcs.out]⟩
      case measure => simp [intOf]; omega
    · obtain rfl : y = 400 := by omega
      go_wp2_with fail
      go_ret
      exact ⟨rfl, rfl⟩
theorem cycle_bd (c : Int) : 144000 ≤ start c 400 ∧ start c 400 ≤ 146400 := by
  have := start_mono c 0 400 (by omega)
  have := lps_bd c 400
  unfold start at *
  split <;> omega
theorem split_1 (q r : Int) : start 1 (400 * q + r) = q * 146097 + start 1 r := by
  simp [start, lps, mul]; omega
theorem cyc_1 : start 1 400 = 146097 := by decide
theorem split_2 (q r : Int) : start 2 (400 * q + r) = q * 146100 + start 2 r := by
  simp [start, lps, mul]; omega
theorem cyc_2 : start 2 400 = 146100 := by decide
theorem split_3 (q r : Int) : start 3 (400 * q + r) = q * 146000 + start 3 r := by
  simp [start, lps, mul]; omega
theorem cyc_3 : start 3 400 = 146000 := by decide
theorem split_4 (q r : Int) : start 4 (400 * q + r) = q * 146400 + start 4 r := by
  simp [start, lps, mul]; omega
theorem cyc_4 : start 4 400 = 146400 := by decide
theorem split_5 (q r : Int) : start 5 (400 * q + r) = q * 144000 + start 5 r := by
  simp [start, lps, mul]; omega
theorem cyc_5 : start 5 400 = 144000 := by decide
theorem start_split (c q r : Int) (h : isCal c) : start c (400 * q + r) = q * start c 400 + start c r := by
  unfold isCal at h
  have hc : c = 1 ∨ c = 2 ∨ c = 3 ∨ c = 4 ∨ c = 5 := by omega
  rcases hc with rfl | rfl | rfl | rfl | rfl
  · rw [cyc_1, split_1]
  · rw [cyc_2, split_2]
  · rw [cyc_3, split_3]
  · rw [cyc_4, split_4]
  · rw [cyc_5, split_5]
theorem first_eq (c y : Int) (h : isCal c) : start c y = y / 400 * start c 400 + start c (y % 400) := by
  rw [← start_split c _ _ h, Int.mul_ediv_add_emod]
theorem cyc_mul {k q : Int} (h0 : 144000 ≤ k) (h1 : k ≤ 146400) (q0 : -30 ≤ q) (q1 : q ≤ 30) : -5000000 ≤ q * k ∧ q * k ≤ 5000000 := by
  have a := Int.mul_nonneg (show 0 ≤ q + 30 by omega) (show 0 ≤ k by omega)
  have b := Int.mul_nonneg (show 0 ≤ 30 - q by omega) (show 0 ≤ k by omega)
  rw [Int.add_mul] at a
  rw [Int.sub_mul] at b
  omega

set_option maxRecDepth 100000 in
set_option maxHeartbeats 800000 in
theorem first_ref (c y : Int) (w : World) (h : isCal c) (h0 : -10000 ≤ y) (h1 : y ≤ 10000) : Calls Try.prog 67 #[.int .i64 c, .int .i64 y] w fun e w' => e = .returned (.int .i64 (start c y)) ∧ Below w.heap.size w w' := by
  have hp := Lib.hid (fun W => part_any y 400 W (by omega) (by omega) (by omega) (by omega))
  have hcy := Lib.hid (fun W => cycle_any c W h)
  have hl := Lib.hid (fun y W => rlength_any c y W h)
  have hfin := Lib.hid (first_eq c y h)
  obtain ⟨c0, c1⟩ := cycle_bd c
  have r0 : 0 ≤ y % 400 := by omega
  have r1 : y % 400 < 400 := by omega
  have q0 : -30 ≤ y / 400 := by omega
  have q1 : y / 400 ≤ 30 := by omega
  obtain ⟨p0, p1⟩ := cyc_mul c0 c1 q0 q1
  clear h h0 h1
  generalize y / 400 = q at *
  generalize y % 400 = r at *
  generalize start c 400 = k at *
  go_enter Try.func67, Try.ntmps67
  go_wp2_with fail
  refine (hp.out _).mono ?_
  rintro e w2 ⟨rfl, hb2⟩
  have HB := Lib.hid hb2
  clear hb2
  go_wp2_with fail
  refine (hcy.out _).mono ?_
  rintro e w3 ⟨rfl, rfl⟩
  go_wp2_with fail
  go_loop [7, 8] (fun t i => ∃ z : Int, 0 ≤ z ∧ z ≤ r ∧ i = .int .i64 z ∧ t = .int .i64 (q * k + start c z)) (fun _ i => (r - intOf i).toNat)
  case atStart => exact ⟨0, by omega, by omega, rfl, by rw [start_zero]; simp⟩
  case round =>
    obtain ⟨z, z0, z1, rfl, rfl⟩ := hrel
    obtain ⟨s0, s1⟩ := start_bd c z (by omega) (by omega)
    obtain ⟨s2, s3⟩ := len_bd c z
    by_cases hlt : z < r
    · have hcs := Lib.hid (start_succ c z)
      go_wp2_with fail
      refine (hl.out z _).mono ?_
      rintro e w4 ⟨rfl, rfl⟩
      go_wp2_with fail
      go_round
      case rel => exact ⟨z + 1, by omega, by omega, rfl, by rw [hcs.out]; go_num⟩
      case measure => simp [intOf]; omega
    · obtain rfl : z = r := by omega
      go_wp2_with fail
      go_ret
      exact ⟨ret_int hfin.out.symm, HB.out⟩
end Go.Proofs.Ythpeaeepcbbfcaa
