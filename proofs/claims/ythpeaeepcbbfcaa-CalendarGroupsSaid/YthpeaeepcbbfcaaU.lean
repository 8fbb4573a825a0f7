/- field, key. -/
import Derived.Test.YthpeaeepcbbfcaaT
namespace Go.Proofs.Ythpeaeepcbbfcaa
open Go.RowKit

/-- rules.date at a date's number. -/
theorem date_at {r : Value} {c n y m d : Int} (w : World) (hr : IsRules c r) (hok : Ok c y m d) (hnum : num c y m d = n) : Calls Try.prog 60 #[r, .int .i64 n] w fun e w' => e = .returned (.tuple #[.agg #[.int .i64 y, .int .i64 m, .int .i64 d], .int .i64 0]) ∧ Below w.heap.size w w' := by
  have h := num_range hok
  rw [hnum] at h
  refine (date_ok r c n w hr h.1 h.2).mono fun e w' ⟨hb, y2, m2, d2, he, hok2, hnum2⟩ => ?_
  obtain ⟨rfl, rfl, rfl⟩ := num_inj hok2 hok (hnum2.trans hnum.symm)
  exact ⟨he, hb⟩
theorem date_bad {r : Value} {c n : Int} (w : World) (hr : IsRules c r) (hn : ¬ (start c (-9999) ≤ n ∧ n < start c 10000)) : Calls Try.prog 60 #[r, .int .i64 n] w fun e w' => e = .returned (.tuple #[.agg #[.int .i64 0, .int .i64 0, .int .i64 0], .int .i64 21]) ∧ Below w.heap.size w w' := by
  by_cases h0 : n < start c (-9999)
  · exact date_low r c n w hr h0
  · exact date_high r c n w hr (by omega) (by omega)

/-- The field of a date. -/
def fieldD (c y m d f : Int) : Int := if f = 1 then y else if f = 2 then m else if f = 3 then m % 12 / 3 + 1 else cum c y m + d
/-- The key of a date. -/
def keyD (y m n f : Int) : Int := if f = 1 then y else if f = 2 then 12 * y + m - 1 else if f = 3 then 4 * y + m / 3 else n
theorem day_eq (c y m d : Int) : num c y m d - start c y + 1 = cum c y m + d := by unfold num; omega

set_option maxRecDepth 100000 in
set_option maxHeartbeats 3200000 in
theorem field_bad (r : Value) (c n x : Int) (hn : ¬ (start c (-9999) ≤ n ∧ n < start c 10000)) (w : World) (hr : IsRules c r) : Calls Try.prog 64 #[r, .int .i64 n, .int .i64 x] w fun e w' => e = .returned (.tuple #[.int .i64 0, .int .i64 21]) ∧ Below w.heap.size w w' := by
  obtain ⟨m0, m1, m2, m3, m4, m5, m6, m7, m8, m9, m10, m11, f, rfl⟩ := hr.form
  have hd := Lib.hid (fun W => date_bad W hr hn)
  clear hn
  clear hr
  go_enter Try.func64, Try.ntmps64
  go_wp2_with fail
  refine (hd.out _).mono ?_
  rintro e w2 ⟨rfl, hb2⟩
  have HB := Lib.hid (kept_more (o := .cells #[.int .i64 0, .int .i64 0, .int .i64 0] 28) (kept_box hb2).2.1)
  clear hb2
  go_wp2_with fail
  go_ret2
  exact ⟨rfl, HB.out⟩

set_option maxRecDepth 100000 in
set_option maxHeartbeats 3200000 in
theorem key_bad (r : Value) (c n x : Int) (hn : ¬ (start c (-9999) ≤ n ∧ n < start c 10000)) (w : World) (hr : IsRules c r) : Calls Try.prog 68 #[r, .int .i64 n, .int .i64 x] w fun e w' => e = .returned (.tuple #[.int .i64 0, .int .i64 21]) ∧ Below w.heap.size w w' := by
  obtain ⟨m0, m1, m2, m3, m4, m5, m6, m7, m8, m9, m10, m11, f, rfl⟩ := hr.form
  have hd := Lib.hid (fun W => date_bad W hr hn)
  clear hn
  clear hr
  go_enter Try.func68, Try.ntmps68
  go_wp2_with fail
  refine (hd.out _).mono ?_
  rintro e w2 ⟨rfl, hb2⟩
  have HB := Lib.hid (kept_more (o := .cells #[.int .i64 0, .int .i64 0, .int .i64 0] 28) (kept_box hb2).2.1)
  clear hb2
  go_wp2_with fail
  go_ret2
  exact ⟨rfl, HB.out⟩

set_option maxRecDepth 100000 in
set_option maxHeartbeats 3200000 in
theorem field_1 (r : Value) (c n y m d : Int) (hok : Ok c y m d) (hnum : num c y m d = n) (w : World) (hr : IsRules c r) : Calls Try.prog 64 #[r, .int .i64 n, .int .i64 1] w fun e w' => e = .returned (.tuple #[.int .i64 y, .int .i64 0]) ∧ Below w.heap.size w w' := by
  obtain ⟨m0, m1, m2, m3, m4, m5, m6, m7, m8, m9, m10, m11, f, rfl⟩ := hr.form
  have hd := Lib.hid (fun W => date_at W hr hok hnum)
  obtain ⟨y0, y1, k0, k1, d0, d1⟩ := hok
  have hnum := Lib.hid hnum
  clear hr
  go_enter Try.func64, Try.ntmps64
  go_wp2_with fail
  refine (hd.out _).mono ?_
  rintro e w2 ⟨rfl, hb2⟩
  have HB := Lib.hid (kept_more (o := .cells #[.int .i64 y, .int .i64 m, .int .i64 d] 28) (kept_box hb2).2.1)
  clear hb2
  go_wp2_with fail
  go_ret2
  exact ⟨rfl, HB.out⟩

set_option maxRecDepth 100000 in
set_option maxHeartbeats 3200000 in
theorem field_2 (r : Value) (c n y m d : Int) (hok : Ok c y m d) (hnum : num c y m d = n) (w : World) (hr : IsRules c r) : Calls Try.prog 64 #[r, .int .i64 n, .int .i64 2] w fun e w' => e = .returned (.tuple #[.int .i64 m, .int .i64 0]) ∧ Below w.heap.size w w' := by
  obtain ⟨m0, m1, m2, m3, m4, m5, m6, m7, m8, m9, m10, m11, f, rfl⟩ := hr.form
  have hd := Lib.hid (fun W => date_at W hr hok hnum)
  obtain ⟨y0, y1, k0, k1, d0, d1⟩ := hok
  have hnum := Lib.hid hnum
  clear hr
  go_enter Try.func64, Try.ntmps64
  go_wp2_with fail
  refine (hd.out _).mono ?_
  rintro e w2 ⟨rfl, hb2⟩
  have HB := Lib.hid (kept_more (o := .cells #[.int .i64 y, .int .i64 m, .int .i64 d] 28) (kept_box hb2).2.1)
  clear hb2
  go_wp2_with fail
  go_ret2
  exact ⟨rfl, HB.out⟩

set_option maxRecDepth 100000 in
set_option maxHeartbeats 3200000 in
theorem field_3 (r : Value) (c n y m d : Int) (hok : Ok c y m d) (hnum : num c y m d = n) (w : World) (hr : IsRules c r) : Calls Try.prog 64 #[r, .int .i64 n, .int .i64 3] w fun e w' => e = .returned (.tuple #[.int .i64 (m % 12 / 3 + 1), .int .i64 0]) ∧ Below w.heap.size w w' := by
  obtain ⟨m0, m1, m2, m3, m4, m5, m6, m7, m8, m9, m10, m11, f, rfl⟩ := hr.form
  have hd := Lib.hid (fun W => date_at W hr hok hnum)
  obtain ⟨y0, y1, k0, k1, d0, d1⟩ := hok
  have hnum := Lib.hid hnum
  clear hr
  go_enter Try.func64, Try.ntmps64
  go_wp2_with fail
  refine (hd.out _).mono ?_
  rintro e w2 ⟨rfl, hb2⟩
  have HB := Lib.hid (kept_more (o := .cells #[.int .i64 y, .int .i64 m, .int .i64 d] 28) (kept_box hb2).2.1)
  clear hb2
  go_wp2_with fail
  go_ret2
  exact ⟨rfl, HB.out⟩

set_option maxRecDepth 100000 in
set_option maxHeartbeats 3200000 in
theorem field_4 (r : Value) (c n y m d : Int) (hok : Ok c y m d) (hnum : num c y m d = n) (x : Int) (t1 : (x == 1) = false) (t2 : (x == 2) = false) (t3 : (x == 3) = false) (w : World) (hr : IsRules c r) : Calls Try.prog 64 #[r, .int .i64 n, .int .i64 x] w fun e w' => e = .returned (.tuple #[.int .i64 (cum c y m + d), .int .i64 0]) ∧ Below w.heap.size w w' := by
  obtain ⟨m0, m1, m2, m3, m4, m5, m6, m7, m8, m9, m10, m11, f, rfl⟩ := hr.form
  have hd := Lib.hid (fun W => date_at W hr hok hnum)
  obtain ⟨y0, y1, k0, k1, d0, d1⟩ := hok
  have hst := Lib.hid hr.start
  have hday := Lib.hid (day_eq c y m d)
  have n0 : -3660000 ≤ n := by have := num_range ⟨y0, y1, k0, k1, d0, d1⟩; have := start_bd c (-9999) (by omega) (by omega); omega
  have n1 : n ≤ 3660000 := by have := num_range ⟨y0, y1, k0, k1, d0, d1⟩; have := start_bd c 10000 (by omega) (by omega); omega
  obtain ⟨sa, sb⟩ := start_bd c y (by omega) (by omega)
  have hnum := Lib.hid hnum
  clear hr
  go_enter Try.func64, Try.ntmps64
  go_wp2_with fail
  refine (hd.out _).mono ?_
  rintro e w2 ⟨rfl, hb2⟩
  have HB := Lib.hid (kept_more (o := .cells #[.int .i64 y, .int .i64 m, .int .i64 d] 28) (kept_box hb2).2.1)
  have hx := (heap_old w2 (.cells #[.int .i64 y, .int .i64 m, .int .i64 d] 28) w.heap.size (kept_box hb2).2.2).trans (kept_box hb2).1
  have x0 := cell_of_heap hx 0
  have x1 := cell_of_heap hx 1
  have x2 := cell_of_heap hx 2
  have x3 := cell_of_heap hx 3
  have x4 := cell_of_heap hx 4
  have x5 := cell_of_heap hx 5
  have x6 := cell_of_heap hx 6
  have x7 := cell_of_heap hx 7
  have x8 := cell_of_heap hx 8
  have x9 := cell_of_heap hx 9
  have x10 := cell_of_heap hx 10
  have x11 := cell_of_heap hx 11
  have x12 := cell_of_heap hx 12
  clear hx
  clear hb2
  go_wp2_with fail
  refine (hst.out y _ (by omega) (by omega)).mono ?_
  rintro e w3 ⟨rfl, hb3⟩
  have HB3 := Lib.hid (HB.out.trans (hb3.mono HB.out.size))
  clear hb3
  go_wp2_with fail
  go_ret2
  exact ⟨ret2i (by rw [← hday.out, hnum.out]), HB3.out⟩

set_option maxRecDepth 100000 in
set_option maxHeartbeats 3200000 in
theorem key_1 (r : Value) (c n y m d : Int) (hok : Ok c y m d) (hnum : num c y m d = n) (w : World) (hr : IsRules c r) : Calls Try.prog 68 #[r, .int .i64 n, .int .i64 1] w fun e w' => e = .returned (.tuple #[.int .i64 y, .int .i64 0]) ∧ Below w.heap.size w w' := by
  obtain ⟨m0, m1, m2, m3, m4, m5, m6, m7, m8, m9, m10, m11, f, rfl⟩ := hr.form
  have hd := Lib.hid (fun W => date_at W hr hok hnum)
  obtain ⟨y0, y1, k0, k1, d0, d1⟩ := hok
  have hnum := Lib.hid hnum
  clear hr
  go_enter Try.func68, Try.ntmps68
  go_wp2_with fail
  refine (hd.out _).mono ?_
  rintro e w2 ⟨rfl, hb2⟩
  have HB := Lib.hid (kept_more (o := .cells #[.int .i64 y, .int .i64 m, .int .i64 d] 28) (kept_box hb2).2.1)
  clear hb2
  go_wp2_with fail
  go_ret2
  exact ⟨rfl, HB.out⟩

set_option maxRecDepth 100000 in
set_option maxHeartbeats 3200000 in
theorem key_2 (r : Value) (c n y m d : Int) (hok : Ok c y m d) (hnum : num c y m d = n) (w : World) (hr : IsRules c r) : Calls Try.prog 68 #[r, .int .i64 n, .int .i64 2] w fun e w' => e = .returned (.tuple #[.int .i64 (12 * y + m - 1), .int .i64 0]) ∧ Below w.heap.size w w' := by
  obtain ⟨m0, m1, m2, m3, m4, m5, m6, m7, m8, m9, m10, m11, f, rfl⟩ := hr.form
  have hd := Lib.hid (fun W => date_at W hr hok hnum)
  obtain ⟨y0, y1, k0, k1, d0, d1⟩ := hok
  have hnum := Lib.hid hnum
  clear hr
  go_enter Try.func68, Try.ntmps68
  go_wp2_with fail
  refine (hd.out _).mono ?_
  rintro e w2 ⟨rfl, hb2⟩
  have HB := Lib.hid (kept_more (o := .cells #[.int .i64 y, .int .i64 m, .int .i64 d] 28) (kept_box hb2).2.1)
  clear hb2
  go_wp2_with fail
  go_ret2
  exact ⟨rfl, HB.out⟩

set_option maxRecDepth 100000 in
set_option maxHeartbeats 3200000 in
theorem key_3 (r : Value) (c n y m d : Int) (hok : Ok c y m d) (hnum : num c y m d = n) (w : World) (hr : IsRules c r) : Calls Try.prog 68 #[r, .int .i64 n, .int .i64 3] w fun e w' => e = .returned (.tuple #[.int .i64 (4 * y + m / 3), .int .i64 0]) ∧ Below w.heap.size w w' := by
  obtain ⟨m0, m1, m2, m3, m4, m5, m6, m7, m8, m9, m10, m11, f, rfl⟩ := hr.form
  have hd := Lib.hid (fun W => date_at W hr hok hnum)
  obtain ⟨y0, y1, k0, k1, d0, d1⟩ := hok
  have hnum := Lib.hid hnum
  clear hr
  go_enter Try.func68, Try.ntmps68
  go_wp2_with fail
  refine (hd.out _).mono ?_
  rintro e w2 ⟨rfl, hb2⟩
  have HB := Lib.hid (kept_more (o := .cells #[.int .i64 y, .int .i64 m, .int .i64 d] 28) (kept_box hb2).2.1)
  clear hb2
  go_wp2_with fail
  go_ret2
  exact ⟨rfl, HB.out⟩

set_option maxRecDepth 100000 in
set_option maxHeartbeats 3200000 in
theorem key_4 (r : Value) (c n y m d : Int) (hok : Ok c y m d) (hnum : num c y m d = n) (x : Int) (t1 : (x == 1) = false) (t2 : (x == 2) = false) (t3 : (x == 3) = false) (w : World) (hr : IsRules c r) : Calls Try.prog 68 #[r, .int .i64 n, .int .i64 x] w fun e w' => e = .returned (.tuple #[.int .i64 n, .int .i64 0]) ∧ Below w.heap.size w w' := by
  obtain ⟨m0, m1, m2, m3, m4, m5, m6, m7, m8, m9, m10, m11, f, rfl⟩ := hr.form
  have hd := Lib.hid (fun W => date_at W hr hok hnum)
  obtain ⟨y0, y1, k0, k1, d0, d1⟩ := hok
  have hnum := Lib.hid hnum
  clear hr
  go_enter Try.func68, Try.ntmps68
  go_wp2_with fail
  refine (hd.out _).mono ?_
  rintro e w2 ⟨rfl, hb2⟩
  have HB := Lib.hid (kept_more (o := .cells #[.int .i64 y, .int .i64 m, .int .i64 d] 28) (kept_box hb2).2.1)
  clear hb2
  go_wp2_with fail
  go_ret2
  exact ⟨rfl, HB.out⟩

theorem field_any (r : Value) (c n y m d x : Int) (w : World) (hr : IsRules c r) (hok : Ok c y m d) (hnum : num c y m d = n) : Calls Try.prog 64 #[r, .int .i64 n, .int .i64 x] w fun e w' => e = .returned (.tuple #[.int .i64 (fieldD c y m d x), .int .i64 0]) ∧ Below w.heap.size w w' := by
  unfold fieldD
  by_cases h1 : x = 1
  · subst h1; exact field_1 r c n y m d hok hnum w hr
  · by_cases h2 : x = 2
    · subst h2; exact field_2 r c n y m d hok hnum w hr
    · by_cases h3 : x = 3
      · subst h3; exact field_3 r c n y m d hok hnum w hr
      · rw [if_neg h1, if_neg h2, if_neg h3]; exact field_4 r c n y m d hok hnum x (by simpa using h1) (by simpa using h2) (by simpa using h3) w hr
theorem key_any (r : Value) (c n y m d x : Int) (w : World) (hr : IsRules c r) (hok : Ok c y m d) (hnum : num c y m d = n) : Calls Try.prog 68 #[r, .int .i64 n, .int .i64 x] w fun e w' => e = .returned (.tuple #[.int .i64 (keyD y m n x), .int .i64 0]) ∧ Below w.heap.size w w' := by
  unfold keyD
  by_cases h1 : x = 1
  · subst h1; exact key_1 r c n y m d hok hnum w hr
  · by_cases h2 : x = 2
    · subst h2; exact key_2 r c n y m d hok hnum w hr
    · by_cases h3 : x = 3
      · subst h3; exact key_3 r c n y m d hok hnum w hr
      · rw [if_neg h1, if_neg h2, if_neg h3]; exact key_4 r c n y m d hok hnum x (by simpa using h1) (by simpa using h2) (by simpa using h3) w hr
end Go.Proofs.Ythpeaeepcbbfcaa
