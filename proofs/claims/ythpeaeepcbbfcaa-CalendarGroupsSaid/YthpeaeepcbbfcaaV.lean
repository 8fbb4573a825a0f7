/- Field, Key. -/
import Derived.Test.YthpeaeepcbbfcaaU
namespace Go.Proofs.Ythpeaeepcbbfcaa
open Go.RowKit

set_option maxRecDepth 100000 in
set_option maxHeartbeats 3200000 in
theorem field_nocal (c n x : Int) (w : World) (h : ¬ isCal c) : Calls Try.prog 39 #[.int .i64 c, .int .i64 n, .int .i64 x] w fun e w' => e = .returned (.tuple #[.int .i64 0, .int .i64 20]) ∧ Below w.heap.size w w' := by
  have hr := Lib.hid (fun W => rulesFor_nocal c x W h)
  clear h
  go_enter Try.func39, Try.ntmps39
  go_wp2_with fail
  refine (hr.out _).mono ?_
  rintro e w2 ⟨rfl, hb2⟩
  have HB := Lib.hid (kept_more (o := .cells #[.int .i64 0, .int .i64 0, .int .i64 0, .int .i64 0, .int .i64 0, .int .i64 0, .int .i64 0, .int .i64 0, .int .i64 0, .int .i64 0, .int .i64 0, .int .i64 0, .nilFunc] 68) hb2)
  clear hb2
  go_wp2_with fail
  go_ret2
  exact ⟨rfl, HB.out⟩

set_option maxRecDepth 100000 in
set_option maxHeartbeats 3200000 in
theorem field_nofield (c n x : Int) (w : World) (h : isCal c) (hx : ¬ (1 ≤ x ∧ x ≤ 4)) : Calls Try.prog 39 #[.int .i64 c, .int .i64 n, .int .i64 x] w fun e w' => e = .returned (.tuple #[.int .i64 0, .int .i64 22]) ∧ Below w.heap.size w w' := by
  have hr := Lib.hid (fun W => rulesFor_nofield c x W h (by simp; omega) (by simp; omega) (by simp; omega) (by simp; omega))
  clear h hx
  go_enter Try.func39, Try.ntmps39
  go_wp2_with fail
  refine (hr.out _).mono ?_
  rintro e w2 ⟨rfl, hb2⟩
  have HB := Lib.hid (kept_more (o := .cells #[.int .i64 0, .int .i64 0, .int .i64 0, .int .i64 0, .int .i64 0, .int .i64 0, .int .i64 0, .int .i64 0, .int .i64 0, .int .i64 0, .int .i64 0, .int .i64 0, .nilFunc] 68) hb2)
  clear hb2
  go_wp2_with fail
  go_ret2
  exact ⟨rfl, HB.out⟩

set_option maxRecDepth 100000 in
set_option maxHeartbeats 3200000 in
theorem field_range (c n x : Int) (w : World) (h : isCal c) (hx0 : 1 ≤ x) (hx1 : x ≤ 4) (hn : ¬ (start c (-9999) ≤ n ∧ n < start c 10000)) : Calls Try.prog 39 #[.int .i64 c, .int .i64 n, .int .i64 x] w fun e w' => e = .returned (.tuple #[.int .i64 0, .int .i64 21]) ∧ Below w.heap.size w w' := by
  have hr := Lib.hid (fun W => rulesFor_ok c x W h hx0 hx1)
  have hn := Lib.hid hn
  clear h
  go_enter Try.func39, Try.ntmps39
  go_wp2_with fail
  refine (hr.out _).mono ?_
  rintro e w2 ⟨r, rfl, hR, hb2⟩
  obtain ⟨m0, m1, m2, m3, m4, m5, m6, m7, m8, m9, m10, m11, f, rfl⟩ := hR.form
  have hc := Lib.hid (fun W => field_bad _ c n x hn.out W hR)
  have HB := Lib.hid hb2
  clear hb2 hR
  go_wp2_with fail
  refine (hc.out _).mono ?_
  rintro e w3 ⟨rfl, hb3⟩
  have HB3 := Lib.hid (kept_alloc HB.out hb3)
  clear hb3
  go_wp2_with fail
  go_ret2
  exact ⟨rfl, HB3.out⟩

set_option maxRecDepth 100000 in
set_option maxHeartbeats 3200000 in
theorem field_yes (c n x : Int) (w : World) (h : isCal c) (hx0 : 1 ≤ x) (hx1 : x ≤ 4) (y m d : Int) (hok : Ok c y m d) (hnum : num c y m d = n) : Calls Try.prog 39 #[.int .i64 c, .int .i64 n, .int .i64 x] w fun e w' => e = .returned (.tuple #[.int .i64 (fieldD c y m d x), .int .i64 0]) ∧ Below w.heap.size w w' := by
  have hr := Lib.hid (fun W => rulesFor_ok c x W h hx0 hx1)
  have hok := Lib.hid hok
  have hnum := Lib.hid hnum
  clear h
  go_enter Try.func39, Try.ntmps39
  go_wp2_with fail
  refine (hr.out _).mono ?_
  rintro e w2 ⟨r, rfl, hR, hb2⟩
  obtain ⟨m0, m1, m2, m3, m4, m5, m6, m7, m8, m9, m10, m11, f, rfl⟩ := hR.form
  have hc := Lib.hid (fun W => field_any _ c n y m d x W hR hok.out hnum.out)
  have HB := Lib.hid hb2
  clear hb2 hR
  go_wp2_with fail
  refine (hc.out _).mono ?_
  rintro e w3 ⟨rfl, hb3⟩
  have HB3 := Lib.hid (kept_alloc HB.out hb3)
  clear hb3
  go_wp2_with fail
  go_ret2
  exact ⟨rfl, HB3.out⟩

set_option maxRecDepth 100000 in
set_option maxHeartbeats 3200000 in
theorem key_nocal (c n x : Int) (w : World) (h : ¬ isCal c) : Calls Try.prog 41 #[.int .i64 c, .int .i64 n, .int .i64 x] w fun e w' => e = .returned (.tuple #[.int .i64 0, .int .i64 20]) ∧ Below w.heap.size w w' := by
  have hr := Lib.hid (fun W => rulesFor_nocal c x W h)
  clear h
  go_enter Try.func41, Try.ntmps41
  go_wp2_with fail
  refine (hr.out _).mono ?_
  rintro e w2 ⟨rfl, hb2⟩
  have HB := Lib.hid (kept_more (o := .cells #[.int .i64 0, .int .i64 0, .int .i64 0, .int .i64 0, .int .i64 0, .int .i64 0, .int .i64 0, .int .i64 0, .int .i64 0, .int .i64 0, .int .i64 0, .int .i64 0, .nilFunc] 68) hb2)
  clear hb2
  go_wp2_with fail
  go_ret2
  exact ⟨rfl, HB.out⟩

set_option maxRecDepth 100000 in
set_option maxHeartbeats 3200000 in
theorem key_nofield (c n x : Int) (w : World) (h : isCal c) (hx : ¬ (1 ≤ x ∧ x ≤ 4)) : Calls Try.prog 41 #[.int .i64 c, .int .i64 n, .int .i64 x] w fun e w' => e = .returned (.tuple #[.int .i64 0, .int .i64 22]) ∧ Below w.heap.size w w' := by
  have hr := Lib.hid (fun W => rulesFor_nofield c x W h (by simp; omega) (by simp; omega) (by simp; omega) (by simp; omega))
  clear h hx
  go_enter Try.func41, Try.ntmps41
  go_wp2_with fail
  refine (hr.out _).mono ?_
  rintro e w2 ⟨rfl, hb2⟩
  have HB := Lib.hid (kept_more (o := .cells #[.int .i64 0, .int .i64 0, .int .i64 0, .int .i64 0, .int .i64 0, .int .i64 0, .int .i64 0, .int .i64 0, .int .i64 0, .int .i64 0, .int .i64 0, .int .i64 0, .nilFunc] 68) hb2)
  clear hb2
  go_wp2_with fail
  go_ret2
  exact ⟨rfl, HB.out⟩

set_option maxRecDepth 100000 in
set_option maxHeartbeats 3200000 in
theorem key_range (c n x : Int) (w : World) (h : isCal c) (hx0 : 1 ≤ x) (hx1 : x ≤ 4) (hn : ¬ (start c (-9999) ≤ n ∧ n < start c 10000)) : Calls Try.prog 41 #[.int .i64 c, .int .i64 n, .int .i64 x] w fun e w' => e = .returned (.tuple #[.int .i64 0, .int .i64 21]) ∧ Below w.heap.size w w' := by
  have hr := Lib.hid (fun W => rulesFor_ok c x W h hx0 hx1)
  have hn := Lib.hid hn
  clear h
  go_enter Try.func41, Try.ntmps41
  go_wp2_with fail
  refine (hr.out _).mono ?_
  rintro e w2 ⟨r, rfl, hR, hb2⟩
  obtain ⟨m0, m1, m2, m3, m4, m5, m6, m7, m8, m9, m10, m11, f, rfl⟩ := hR.form
  have hc := Lib.hid (fun W => key_bad _ c n x hn.out W hR)
  have HB := Lib.hid hb2
  clear hb2 hR
  go_wp2_with fail
  refine (hc.out _).mono ?_
  rintro e w3 ⟨rfl, hb3⟩
  have HB3 := Lib.hid (kept_alloc HB.out hb3)
  clear hb3
  go_wp2_with fail
  go_ret2
  exact ⟨rfl, HB3.out⟩

set_option maxRecDepth 100000 in
set_option maxHeartbeats 3200000 in
theorem key_yes (c n x : Int) (w : World) (h : isCal c) (hx0 : 1 ≤ x) (hx1 : x ≤ 4) (y m d : Int) (hok : Ok c y m d) (hnum : num c y m d = n) : Calls Try.prog 41 #[.int .i64 c, .int .i64 n, .int .i64 x] w fun e w' => e = .returned (.tuple #[.int .i64 (keyD y m n x), .int .i64 0]) ∧ Below w.heap.size w w' := by
  have hr := Lib.hid (fun W => rulesFor_ok c x W h hx0 hx1)
  have hok := Lib.hid hok
  have hnum := Lib.hid hnum
  clear h
  go_enter Try.func41, Try.ntmps41
  go_wp2_with fail
  refine (hr.out _).mono ?_
  rintro e w2 ⟨r, rfl, hR, hb2⟩
  obtain ⟨m0, m1, m2, m3, m4, m5, m6, m7, m8, m9, m10, m11, f, rfl⟩ := hR.form
  have hc := Lib.hid (fun W => key_any _ c n y m d x W hR hok.out hnum.out)
  have HB := Lib.hid hb2
  clear hb2 hR
  go_wp2_with fail
  refine (hc.out _).mono ?_
  rintro e w3 ⟨rfl, hb3⟩
  have HB3 := Lib.hid (kept_alloc HB.out hb3)
  clear hb3
  go_wp2_with fail
  go_ret2
  exact ⟨rfl, HB3.out⟩
end Go.Proofs.Ythpeaeepcbbfcaa
