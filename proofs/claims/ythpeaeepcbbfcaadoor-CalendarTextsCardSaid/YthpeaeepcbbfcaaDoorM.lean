/- Leap, Days, Length, Valid, Number, DateOf where there is the calendar. -/
import Derived.Test.YthpeaeepcbbfcaaDoorL
namespace Go.Proofs.YthpeaeepcbbfcaaDoor
open Go.RowKit

theorem cell_of_block' {W W' : World} {b : Nat} (h : W'.heap[b]? = W.heap[b]?) (k : Nat) : W'.cell? ⟨b, k, none⟩ = W.cell? ⟨b, k, none⟩ := by
  unfold World.cell?; rw [h]
set_option maxRecDepth 100000 in
set_option maxHeartbeats 1600000 in
theorem number_no (c : Int) (y m d : Int) (w : World) (h : isCal c) (h1 : ok c y m d = false) : Calls Tryd.prog 17 #[.int .i64 c, .agg #[.int .i64 y, .int .i64 m, .int .i64 d]] w fun e w' => e = .returned (.tuple #[.int .i64 0, .int .i64 21]) ∧ Below w.heap.size w w' := by
  have hro := Lib.hid (fun W => rulesOf_ok c W h)
  have H1 := Lib.hid h1
  clear h1
  clear h
  go_enter Tryd.func17, Tryd.ntmps17
  go_wp2_with fail
  refine (hro.out _).mono ?_
  rintro e w2 ⟨r, rfl, hr, hb2⟩
  obtain ⟨m0, m1, m2, m3, m4, m5, m6, m7, m8, m9, m10, m11, f, rfl⟩ := hr.form
  obtain ⟨Hx, Hb, hz⟩ := kept_box hb2
  have HB := Lib.hid Hb
  have hx2 := (heap_old w2 (.cells #[.int .i64 m0, .int .i64 m1, .int .i64 m2, .int .i64 m3, .int .i64 m4, .int .i64 m5, .int .i64 m6, .int .i64 m7, .int .i64 m8, .int .i64 m9, .int .i64 m10, .int .i64 m11, .func (.func f) #[] #[]] 34) w.heap.size (by omega)).trans Hx
  have e0 := cell_of_heap hx2 0
  have e1 := cell_of_heap hx2 1
  have e2 := cell_of_heap hx2 2
  have Hx2 := Lib.hid hx2
  clear hb2 Hb Hx hx2
  have hl := Lib.hid (fun W => valid_any _ c y m d W hr)
  rw [H1.out] at hl
  clear hr
  go_wp2_with fail
  refine (hl.out _).mono ?_
  rintro e w4 ⟨rfl, hb4⟩
  have HB4 := Lib.hid (kept_alloc HB.out hb4)
  clear hb4
  go_wp2_with fail
  go_ret2
  exact ⟨rfl, HB4.out⟩

set_option maxRecDepth 100000 in
set_option maxHeartbeats 1600000 in
theorem number_yes (c : Int) (y m d : Int) (w : World) (h : isCal c) (h1 : ok c y m d = true) : Calls Tryd.prog 17 #[.int .i64 c, .agg #[.int .i64 y, .int .i64 m, .int .i64 d]] w fun e w' => e = .returned (.tuple #[.int .i64 (num c y m d), .int .i64 0]) ∧ Below w.heap.size w w' := by
  have hro := Lib.hid (fun W => rulesOf_ok c W h)
  have H1 := Lib.hid h1
  clear h1
  clear h
  go_enter Tryd.func17, Tryd.ntmps17
  go_wp2_with fail
  refine (hro.out _).mono ?_
  rintro e w2 ⟨r, rfl, hr, hb2⟩
  obtain ⟨m0, m1, m2, m3, m4, m5, m6, m7, m8, m9, m10, m11, f, rfl⟩ := hr.form
  obtain ⟨Hx, Hb, hz⟩ := kept_box hb2
  have HB := Lib.hid Hb
  have hx2 := (heap_old w2 (.cells #[.int .i64 m0, .int .i64 m1, .int .i64 m2, .int .i64 m3, .int .i64 m4, .int .i64 m5, .int .i64 m6, .int .i64 m7, .int .i64 m8, .int .i64 m9, .int .i64 m10, .int .i64 m11, .func (.func f) #[] #[]] 34) w.heap.size (by omega)).trans Hx
  have e0 := cell_of_heap hx2 0
  have e1 := cell_of_heap hx2 1
  have e2 := cell_of_heap hx2 2
  have Hx2 := Lib.hid hx2
  clear hb2 Hb Hx hx2
  have hl := Lib.hid (fun W => valid_any _ c y m d W hr)
  have hn := Lib.hid (fun W => number_any _ c y m d W hr ((ok_of H1.out).1 rfl))
  rw [H1.out] at hl
  clear hr
  go_wp2_with fail
  refine (hl.out _).mono ?_
  rintro e w4 ⟨rfl, hb4⟩
  have HB4 := Lib.hid (kept_alloc HB.out hb4)
  have x1 := (hb4.block w2.heap.size (by simp)).trans (heap_new _ _)
  have x2 := (hb4.block w.heap.size (by simp; omega)).trans Hx2.out
  have y0 := cell_of_heap x2 0
  have y1 := cell_of_heap x2 1
  have y2 := cell_of_heap x2 2
  have z0 := cell_of_heap x1 0
  have z1 := cell_of_heap x1 1
  have z2 := cell_of_heap x1 2
  have z3 := cell_of_heap x1 3
  have z4 := cell_of_heap x1 4
  have z5 := cell_of_heap x1 5
  have z6 := cell_of_heap x1 6
  have z7 := cell_of_heap x1 7
  have z8 := cell_of_heap x1 8
  have z9 := cell_of_heap x1 9
  have z10 := cell_of_heap x1 10
  have z11 := cell_of_heap x1 11
  have z12 := cell_of_heap x1 12
  clear hb4 x1 x2
  go_wp2_with fail
  refine (hn.out _).mono ?_
  rintro e w5 ⟨rfl, hb5⟩
  have HB5 := Lib.hid (HB4.out.trans (hb5.mono HB4.out.size))
  clear hb5
  go_wp2_with fail
  go_ret2
  exact ⟨rfl, HB5.out⟩
end Go.Proofs.YthpeaeepcbbfcaaDoor
