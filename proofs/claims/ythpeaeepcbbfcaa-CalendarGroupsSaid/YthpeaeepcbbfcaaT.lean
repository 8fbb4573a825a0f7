/- rulesFor. -/
import Derived.Test.YthpeaeepcbbfcaaQ
namespace Go.Proofs.Ythpeaeepcbbfcaa
open Go.RowKit

theorem setCells {w W : World} (h : Below w.heap.size w W) (k : Nat) (a : Value) : Below w.heap.size w (W.setCell ⟨w.heap.size, k, none⟩ a) := h.setCell (Nat.le_refl _) _

set_option maxRecDepth 100000 in
set_option maxHeartbeats 3200000 in
theorem rulesFor_nocal (c f : Int) (w : World) (h : ¬ isCal c) : Calls Try.prog 63 #[.int .i64 c, .int .i64 f] w fun e w' => e = .returned (.tuple #[.agg #[.int .i64 0, .int .i64 0, .int .i64 0, .int .i64 0, .int .i64 0, .int .i64 0, .int .i64 0, .int .i64 0, .int .i64 0, .int .i64 0, .int .i64 0, .int .i64 0, .nilFunc], .int .i64 20]) ∧ Below w.heap.size w w' := by
  have hr := Lib.hid (fun W => rulesOf_no c W h)
  clear h
  go_enter Try.func63, Try.ntmps63
  go_wp2_with fail
  refine (hr.out _).mono ?_
  rintro e w2 ⟨rfl, hb2⟩
  obtain ⟨Hx, Hb, hz⟩ := kept_box hb2
  have HB := Lib.hid (kept_more (o := .cells #[.int .i64 0, .int .i64 0, .int .i64 0, .int .i64 0, .int .i64 0, .int .i64 0, .int .i64 0, .int .i64 0, .int .i64 0, .int .i64 0, .int .i64 0, .int .i64 0, .nilFunc] 68) Hb)
  have hx3 := (heap_old w2 (.cells #[.int .i64 0, .int .i64 0, .int .i64 0, .int .i64 0, .int .i64 0, .int .i64 0, .int .i64 0, .int .i64 0, .int .i64 0, .int .i64 0, .int .i64 0, .int .i64 0, .nilFunc] 68) w.heap.size (by omega)).trans Hx
  clear hb2 Hb Hx
  have e0 := cell_of_heap hx3 0
  have e1 := cell_of_heap hx3 1
  have e2 := cell_of_heap hx3 2
  have e3 := cell_of_heap hx3 3
  have e4 := cell_of_heap hx3 4
  have e5 := cell_of_heap hx3 5
  have e6 := cell_of_heap hx3 6
  have e7 := cell_of_heap hx3 7
  have e8 := cell_of_heap hx3 8
  have e9 := cell_of_heap hx3 9
  have e10 := cell_of_heap hx3 10
  have e11 := cell_of_heap hx3 11
  have e12 := cell_of_heap hx3 12
  have f0 := free_of_heap hx3 0
  have f1 := free_of_heap hx3 1
  have f2 := free_of_heap hx3 2
  have f3 := free_of_heap hx3 3
  have f4 := free_of_heap hx3 4
  have f5 := free_of_heap hx3 5
  have f6 := free_of_heap hx3 6
  have f7 := free_of_heap hx3 7
  have f8 := free_of_heap hx3 8
  have f9 := free_of_heap hx3 9
  have f10 := free_of_heap hx3 10
  have f11 := free_of_heap hx3 11
  have f12 := free_of_heap hx3 12
  go_wp2_with fail
  refine bodyPost_ret (v := .tuple #[.agg #[.int .i64 0, .int .i64 0, .int .i64 0, .int .i64 0, .int .i64 0, .int .i64 0, .int .i64 0, .int .i64 0, .int .i64 0, .int .i64 0, .int .i64 0, .int .i64 0, .nilFunc], .int .i64 20]) (by simp [results, Try.results63, go_sem, e0, e1, e2, e3, e4, e5, e6, e7, e8, e9, e10, e11, e12]) rfl ⟨rfl, (setCells (setCells (setCells (setCells (setCells (setCells (setCells (setCells (setCells (setCells (setCells (setCells (setCells HB.out 0 _) 1 _) 2 _) 3 _) 4 _) 5 _) 6 _) 7 _) 8 _) 9 _) 10 _) 11 _) 12 _)⟩

set_option maxRecDepth 100000 in
set_option maxHeartbeats 3200000 in
theorem rulesFor_nofield (c x : Int) (w : World) (h : isCal c) (t1 : (x == 1) = false) (t2 : (x == 2) = false) (t3 : (x == 3) = false) (t4 : (x == 4) = false) : Calls Try.prog 63 #[.int .i64 c, .int .i64 x] w fun e w' => e = .returned (.tuple #[.agg #[.int .i64 0, .int .i64 0, .int .i64 0, .int .i64 0, .int .i64 0, .int .i64 0, .int .i64 0, .int .i64 0, .int .i64 0, .int .i64 0, .int .i64 0, .int .i64 0, .nilFunc], .int .i64 22]) ∧ Below w.heap.size w w' := by
  have hro := Lib.hid (fun W => rulesOf_ok c W h)
  clear h
  go_enter Try.func63, Try.ntmps63
  go_wp2_with fail
  refine (hro.out _).mono ?_
  rintro e w2 ⟨r, rfl, hr, hb2⟩
  obtain ⟨m0, m1, m2, m3, m4, m5, m6, m7, m8, m9, m10, m11, f, rfl⟩ := hr.form
  have Hr := Lib.hid hr
  clear hr
  obtain ⟨Hx, Hb, hz⟩ := kept_box hb2
  have HB := Lib.hid (kept_more (o := .cells #[.int .i64 m0, .int .i64 m1, .int .i64 m2, .int .i64 m3, .int .i64 m4, .int .i64 m5, .int .i64 m6, .int .i64 m7, .int .i64 m8, .int .i64 m9, .int .i64 m10, .int .i64 m11, .func (.func f) #[] #[]] 68) Hb)
  have hx3 := (heap_old w2 (.cells #[.int .i64 m0, .int .i64 m1, .int .i64 m2, .int .i64 m3, .int .i64 m4, .int .i64 m5, .int .i64 m6, .int .i64 m7, .int .i64 m8, .int .i64 m9, .int .i64 m10, .int .i64 m11, .func (.func f) #[] #[]] 68) w.heap.size (by omega)).trans Hx
  clear hb2 Hb Hx
  have e0 := cell_of_heap hx3 0
  have e1 := cell_of_heap hx3 1
  have e2 := cell_of_heap hx3 2
  have e3 := cell_of_heap hx3 3
  have e4 := cell_of_heap hx3 4
  have e5 := cell_of_heap hx3 5
  have e6 := cell_of_heap hx3 6
  have e7 := cell_of_heap hx3 7
  have e8 := cell_of_heap hx3 8
  have e9 := cell_of_heap hx3 9
  have e10 := cell_of_heap hx3 10
  have e11 := cell_of_heap hx3 11
  have e12 := cell_of_heap hx3 12
  have f0 := free_of_heap hx3 0
  have f1 := free_of_heap hx3 1
  have f2 := free_of_heap hx3 2
  have f3 := free_of_heap hx3 3
  have f4 := free_of_heap hx3 4
  have f5 := free_of_heap hx3 5
  have f6 := free_of_heap hx3 6
  have f7 := free_of_heap hx3 7
  have f8 := free_of_heap hx3 8
  have f9 := free_of_heap hx3 9
  have f10 := free_of_heap hx3 10
  have f11 := free_of_heap hx3 11
  have f12 := free_of_heap hx3 12
  go_wp2_with fail
  refine bodyPost_ret (v := .tuple #[.agg #[.int .i64 0, .int .i64 0, .int .i64 0, .int .i64 0, .int .i64 0, .int .i64 0, .int .i64 0, .int .i64 0, .int .i64 0, .int .i64 0, .int .i64 0, .int .i64 0, .nilFunc], .int .i64 22]) (by simp [results, Try.results63, go_sem, e0, e1, e2, e3, e4, e5, e6, e7, e8, e9, e10, e11, e12]) rfl ⟨rfl, (setCells (setCells (setCells (setCells (setCells (setCells (setCells (setCells (setCells (setCells (setCells (setCells (setCells HB.out 0 _) 1 _) 2 _) 3 _) 4 _) 5 _) 6 _) 7 _) 8 _) 9 _) 10 _) 11 _) 12 _)⟩

/-- What rulesFor returns. -/
def RFor (c : Int) (w : World) (e : Ending) (w' : World) : Prop := ∃ r, e = .returned (.tuple #[r, .int .i64 0]) ∧ IsRules c r ∧ Below w.heap.size w w'

set_option maxRecDepth 100000 in
set_option maxHeartbeats 3200000 in
theorem rulesFor_1 (c : Int) (w : World) (h : isCal c)  : Calls Try.prog 63 #[.int .i64 c, .int .i64 1] w (RFor c w) := by
  have hro := Lib.hid (fun W => rulesOf_ok c W h)
  clear h
  go_enter Try.func63, Try.ntmps63
  go_wp2_with fail
  refine (hro.out _).mono ?_
  rintro e w2 ⟨r, rfl, hr, hb2⟩
  obtain ⟨m0, m1, m2, m3, m4, m5, m6, m7, m8, m9, m10, m11, f, rfl⟩ := hr.form
  have Hr := Lib.hid hr
  clear hr
  obtain ⟨Hx, Hb, hz⟩ := kept_box hb2
  have HB := Lib.hid (kept_more (o := .cells #[.int .i64 m0, .int .i64 m1, .int .i64 m2, .int .i64 m3, .int .i64 m4, .int .i64 m5, .int .i64 m6, .int .i64 m7, .int .i64 m8, .int .i64 m9, .int .i64 m10, .int .i64 m11, .func (.func f) #[] #[]] 68) Hb)
  have hx3 := (heap_old w2 (.cells #[.int .i64 m0, .int .i64 m1, .int .i64 m2, .int .i64 m3, .int .i64 m4, .int .i64 m5, .int .i64 m6, .int .i64 m7, .int .i64 m8, .int .i64 m9, .int .i64 m10, .int .i64 m11, .func (.func f) #[] #[]] 68) w.heap.size (by omega)).trans Hx
  clear hb2 Hb Hx
  have e0 := cell_of_heap hx3 0
  have e1 := cell_of_heap hx3 1
  have e2 := cell_of_heap hx3 2
  have e3 := cell_of_heap hx3 3
  have e4 := cell_of_heap hx3 4
  have e5 := cell_of_heap hx3 5
  have e6 := cell_of_heap hx3 6
  have e7 := cell_of_heap hx3 7
  have e8 := cell_of_heap hx3 8
  have e9 := cell_of_heap hx3 9
  have e10 := cell_of_heap hx3 10
  have e11 := cell_of_heap hx3 11
  have e12 := cell_of_heap hx3 12
  have f0 := free_of_heap hx3 0
  have f1 := free_of_heap hx3 1
  have f2 := free_of_heap hx3 2
  have f3 := free_of_heap hx3 3
  have f4 := free_of_heap hx3 4
  have f5 := free_of_heap hx3 5
  have f6 := free_of_heap hx3 6
  have f7 := free_of_heap hx3 7
  have f8 := free_of_heap hx3 8
  have f9 := free_of_heap hx3 9
  have f10 := free_of_heap hx3 10
  have f11 := free_of_heap hx3 11
  have f12 := free_of_heap hx3 12
  go_wp2_with fail
  refine bodyPost_ret (v := .tuple #[.agg #[.int .i64 m0, .int .i64 m1, .int .i64 m2, .int .i64 m3, .int .i64 m4, .int .i64 m5, .int .i64 m6, .int .i64 m7, .int .i64 m8, .int .i64 m9, .int .i64 m10, .int .i64 m11, .func (.func f) #[] #[]], .int .i64 0]) (by simp [results, Try.results63, go_sem, e0, e1, e2, e3, e4, e5, e6, e7, e8, e9, e10, e11, e12]) rfl ⟨_, rfl, Hr.out, (setCells (setCells (setCells (setCells (setCells (setCells (setCells (setCells (setCells (setCells (setCells (setCells (setCells HB.out 0 _) 1 _) 2 _) 3 _) 4 _) 5 _) 6 _) 7 _) 8 _) 9 _) 10 _) 11 _) 12 _)⟩

set_option maxRecDepth 100000 in
set_option maxHeartbeats 3200000 in
theorem rulesFor_2 (c : Int) (w : World) (h : isCal c)  : Calls Try.prog 63 #[.int .i64 c, .int .i64 2] w (RFor c w) := by
  have hro := Lib.hid (fun W => rulesOf_ok c W h)
  clear h
  go_enter Try.func63, Try.ntmps63
  go_wp2_with fail
  refine (hro.out _).mono ?_
  rintro e w2 ⟨r, rfl, hr, hb2⟩
  obtain ⟨m0, m1, m2, m3, m4, m5, m6, m7, m8, m9, m10, m11, f, rfl⟩ := hr.form
  have Hr := Lib.hid hr
  clear hr
  obtain ⟨Hx, Hb, hz⟩ := kept_box hb2
  have HB := Lib.hid (kept_more (o := .cells #[.int .i64 m0, .int .i64 m1, .int .i64 m2, .int .i64 m3, .int .i64 m4, .int .i64 m5, .int .i64 m6, .int .i64 m7, .int .i64 m8, .int .i64 m9, .int .i64 m10, .int .i64 m11, .func (.func f) #[] #[]] 68) Hb)
  have hx3 := (heap_old w2 (.cells #[.int .i64 m0, .int .i64 m1, .int .i64 m2, .int .i64 m3, .int .i64 m4, .int .i64 m5, .int .i64 m6, .int .i64 m7, .int .i64 m8, .int .i64 m9, .int .i64 m10, .int .i64 m11, .func (.func f) #[] #[]] 68) w.heap.size (by omega)).trans Hx
  clear hb2 Hb Hx
  have e0 := cell_of_heap hx3 0
  have e1 := cell_of_heap hx3 1
  have e2 := cell_of_heap hx3 2
  have e3 := cell_of_heap hx3 3
  have e4 := cell_of_heap hx3 4
  have e5 := cell_of_heap hx3 5
  have e6 := cell_of_heap hx3 6
  have e7 := cell_of_heap hx3 7
  have e8 := cell_of_heap hx3 8
  have e9 := cell_of_heap hx3 9
  have e10 := cell_of_heap hx3 10
  have e11 := cell_of_heap hx3 11
  have e12 := cell_of_heap hx3 12
  have f0 := free_of_heap hx3 0
  have f1 := free_of_heap hx3 1
  have f2 := free_of_heap hx3 2
  have f3 := free_of_heap hx3 3
  have f4 := free_of_heap hx3 4
  have f5 := free_of_heap hx3 5
  have f6 := free_of_heap hx3 6
  have f7 := free_of_heap hx3 7
  have f8 := free_of_heap hx3 8
  have f9 := free_of_heap hx3 9
  have f10 := free_of_heap hx3 10
  have f11 := free_of_heap hx3 11
  have f12 := free_of_heap hx3 12
  go_wp2_with fail
  refine bodyPost_ret (v := .tuple #[.agg #[.int .i64 m0, .int .i64 m1, .int .i64 m2, .int .i64 m3, .int .i64 m4, .int .i64 m5, .int .i64 m6, .int .i64 m7, .int .i64 m8, .int .i64 m9, .int .i64 m10, .int .i64 m11, .func (.func f) #[] #[]], .int .i64 0]) (by simp [results, Try.results63, go_sem, e0, e1, e2, e3, e4, e5, e6, e7, e8, e9, e10, e11, e12]) rfl ⟨_, rfl, Hr.out, (setCells (setCells (setCells (setCells (setCells (setCells (setCells (setCells (setCells (setCells (setCells (setCells (setCells HB.out 0 _) 1 _) 2 _) 3 _) 4 _) 5 _) 6 _) 7 _) 8 _) 9 _) 10 _) 11 _) 12 _)⟩

set_option maxRecDepth 100000 in
set_option maxHeartbeats 3200000 in
theorem rulesFor_3 (c : Int) (w : World) (h : isCal c)  : Calls Try.prog 63 #[.int .i64 c, .int .i64 3] w (RFor c w) := by
  have hro := Lib.hid (fun W => rulesOf_ok c W h)
  clear h
  go_enter Try.func63, Try.ntmps63
  go_wp2_with fail
  refine (hro.out _).mono ?_
  rintro e w2 ⟨r, rfl, hr, hb2⟩
  obtain ⟨m0, m1, m2, m3, m4, m5, m6, m7, m8, m9, m10, m11, f, rfl⟩ := hr.form
  have Hr := Lib.hid hr
  clear hr
  obtain ⟨Hx, Hb, hz⟩ := kept_box hb2
  have HB := Lib.hid (kept_more (o := .cells #[.int .i64 m0, .int .i64 m1, .int .i64 m2, .int .i64 m3, .int .i64 m4, .int .i64 m5, .int .i64 m6, .int .i64 m7, .int .i64 m8, .int .i64 m9, .int .i64 m10, .int .i64 m11, .func (.func f) #[] #[]] 68) Hb)
  have hx3 := (heap_old w2 (.cells #[.int .i64 m0, .int .i64 m1, .int .i64 m2, .int .i64 m3, .int .i64 m4, .int .i64 m5, .int .i64 m6, .int .i64 m7, .int .i64 m8, .int .i64 m9, .int .i64 m10, .int .i64 m11, .func (.func f) #[] #[]] 68) w.heap.size (by omega)).trans Hx
  clear hb2 Hb Hx
  have e0 := cell_of_heap hx3 0
  have e1 := cell_of_heap hx3 1
  have e2 := cell_of_heap hx3 2
  have e3 := cell_of_heap hx3 3
  have e4 := cell_of_heap hx3 4
  have e5 := cell_of_heap hx3 5
  have e6 := cell_of_heap hx3 6
  have e7 := cell_of_heap hx3 7
  have e8 := cell_of_heap hx3 8
  have e9 := cell_of_heap hx3 9
  have e10 := cell_of_heap hx3 10
  have e11 := cell_of_heap hx3 11
  have e12 := cell_of_heap hx3 12
  have f0 := free_of_heap hx3 0
  have f1 := free_of_heap hx3 1
  have f2 := free_of_heap hx3 2
  have f3 := free_of_heap hx3 3
  have f4 := free_of_heap hx3 4
  have f5 := free_of_heap hx3 5
  have f6 := free_of_heap hx3 6
  have f7 := free_of_heap hx3 7
  have f8 := free_of_heap hx3 8
  have f9 := free_of_heap hx3 9
  have f10 := free_of_heap hx3 10
  have f11 := free_of_heap hx3 11
  have f12 := free_of_heap hx3 12
  go_wp2_with fail
  refine bodyPost_ret (v := .tuple #[.agg #[.int .i64 m0, .int .i64 m1, .int .i64 m2, .int .i64 m3, .int .i64 m4, .int .i64 m5, .int .i64 m6, .int .i64 m7, .int .i64 m8, .int .i64 m9, .int .i64 m10, .int .i64 m11, .func (.func f) #[] #[]], .int .i64 0]) (by simp [results, Try.results63, go_sem, e0, e1, e2, e3, e4, e5, e6, e7, e8, e9, e10, e11, e12]) rfl ⟨_, rfl, Hr.out, (setCells (setCells (setCells (setCells (setCells (setCells (setCells (setCells (setCells (setCells (setCells (setCells (setCells HB.out 0 _) 1 _) 2 _) 3 _) 4 _) 5 _) 6 _) 7 _) 8 _) 9 _) 10 _) 11 _) 12 _)⟩

set_option maxRecDepth 100000 in
set_option maxHeartbeats 3200000 in
theorem rulesFor_4 (c : Int) (w : World) (h : isCal c)  : Calls Try.prog 63 #[.int .i64 c, .int .i64 4] w (RFor c w) := by
  have hro := Lib.hid (fun W => rulesOf_ok c W h)
  clear h
  go_enter Try.func63, Try.ntmps63
  go_wp2_with fail
  refine (hro.out _).mono ?_
  rintro e w2 ⟨r, rfl, hr, hb2⟩
  obtain ⟨m0, m1, m2, m3, m4, m5, m6, m7, m8, m9, m10, m11, f, rfl⟩ := hr.form
  have Hr := Lib.hid hr
  clear hr
  obtain ⟨Hx, Hb, hz⟩ := kept_box hb2
  have HB := Lib.hid (kept_more (o := .cells #[.int .i64 m0, .int .i64 m1, .int .i64 m2, .int .i64 m3, .int .i64 m4, .int .i64 m5, .int .i64 m6, .int .i64 m7, .int .i64 m8, .int .i64 m9, .int .i64 m10, .int .i64 m11, .func (.func f) #[] #[]] 68) Hb)
  have hx3 := (heap_old w2 (.cells #[.int .i64 m0, .int .i64 m1, .int .i64 m2, .int .i64 m3, .int .i64 m4, .int .i64 m5, .int .i64 m6, .int .i64 m7, .int .i64 m8, .int .i64 m9, .int .i64 m10, .int .i64 m11, .func (.func f) #[] #[]] 68) w.heap.size (by omega)).trans Hx
  clear hb2 Hb Hx
  have e0 := cell_of_heap hx3 0
  have e1 := cell_of_heap hx3 1
  have e2 := cell_of_heap hx3 2
  have e3 := cell_of_heap hx3 3
  have e4 := cell_of_heap hx3 4
  have e5 := cell_of_heap hx3 5
  have e6 := cell_of_heap hx3 6
  have e7 := cell_of_heap hx3 7
  have e8 := cell_of_heap hx3 8
  have e9 := cell_of_heap hx3 9
  have e10 := cell_of_heap hx3 10
  have e11 := cell_of_heap hx3 11
  have e12 := cell_of_heap hx3 12
  have f0 := free_of_heap hx3 0
  have f1 := free_of_heap hx3 1
  have f2 := free_of_heap hx3 2
  have f3 := free_of_heap hx3 3
  have f4 := free_of_heap hx3 4
  have f5 := free_of_heap hx3 5
  have f6 := free_of_heap hx3 6
  have f7 := free_of_heap hx3 7
  have f8 := free_of_heap hx3 8
  have f9 := free_of_heap hx3 9
  have f10 := free_of_heap hx3 10
  have f11 := free_of_heap hx3 11
  have f12 := free_of_heap hx3 12
  go_wp2_with fail
  refine bodyPost_ret (v := .tuple #[.agg #[.int .i64 m0, .int .i64 m1, .int .i64 m2, .int .i64 m3, .int .i64 m4, .int .i64 m5, .int .i64 m6, .int .i64 m7, .int .i64 m8, .int .i64 m9, .int .i64 m10, .int .i64 m11, .func (.func f) #[] #[]], .int .i64 0]) (by simp [results, Try.results63, go_sem, e0, e1, e2, e3, e4, e5, e6, e7, e8, e9, e10, e11, e12]) rfl ⟨_, rfl, Hr.out, (setCells (setCells (setCells (setCells (setCells (setCells (setCells (setCells (setCells (setCells (setCells (setCells (setCells HB.out 0 _) 1 _) 2 _) 3 _) 4 _) 5 _) 6 _) 7 _) 8 _) 9 _) 10 _) 11 _) 12 _)⟩

theorem rulesFor_ok (c x : Int) (w : World) (h : isCal c) (h0 : 1 ≤ x) (h1 : x ≤ 4) : Calls Try.prog 63 #[.int .i64 c, .int .i64 x] w (RFor c w) := by
  have hx : x = 1 ∨ x = 2 ∨ x = 3 ∨ x = 4 := by omega
  rcases hx with rfl | rfl | rfl | rfl
  · exact rulesFor_1 c w h
  · exact rulesFor_2 c w h
  · exact rulesFor_3 c w h
  · exact rulesFor_4 c w h
end Go.Proofs.Ythpeaeepcbbfcaa
