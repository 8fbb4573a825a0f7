/- The law CalendarCounts. -/
import Derived.Test.YthpeaeepcbbfcaaO
namespace Go.Proofs.Ythpeaeepcbbfcaa
open Go.RowKit

theorem num_first (c y : Int) : num c y 1 1 = start c y := by unfold num; rw [cum_one]; omega
theorem ok_first (c y : Int) (h0 : -9999 ≤ y) (h1 : y ≤ 9999) : ok c y 1 1 = true := by
  have := dm_bd c y 1
  unfold ok; rw [decide_eq_true_eq]; exact ⟨h0, h1, by omega, by omega, by omega, by omega⟩
theorem ok_true {c y m d : Int} (h : Ok c y m d) : ok c y m d = true := decide_eq_true h
theorem first_any (c y : Int) (w : World) (h : isCal c) (h0 : -9999 ≤ y) (h1 : y ≤ 9999) : Calls Try.prog 28 #[.int .i64 c, .agg #[.int .i64 y, .int .i64 1, .int .i64 1]] w fun e w' => e = .returned (.tuple #[.int .i64 (start c y), .int .i64 0]) ∧ Below w.heap.size w w' := by
  rw [← num_first]; exact number_yes c y 1 1 w h (ok_first c y h0 h1)
theorem first_no (c : Int) (w : World) (h : isCal c) : Calls Try.prog 28 #[.int .i64 c, .agg #[.int .i64 10000, .int .i64 1, .int .i64 1]] w fun e w' => e = .returned (.tuple #[.int .i64 0, .int .i64 21]) ∧ Below w.heap.size w w' :=
  number_no c 10000 1 1 w h (decide_eq_false fun h => by have := h.2.1; omega)
theorem num_any' {c y m d n : Int} (w : World) (h : isCal c) (hok : Ok c y m d) (hn : num c y m d = n) : Calls Try.prog 28 #[.int .i64 c, .agg #[.int .i64 y, .int .i64 m, .int .i64 d]] w fun e w' => e = .returned (.tuple #[.int .i64 n, .int .i64 0]) ∧ Below w.heap.size w w' := by
  rw [← hn]; exact number_yes c y m d w h (ok_true hok)

/-- What a law returns. -/
def LawPost (w : World) (e : Ending) (w' : World) : Prop := e = .returned (.bool true) ∧ Below w.heap.size w w'

set_option maxRecDepth 100000 in
set_option maxHeartbeats 1600000 in
theorem counts_err (c n v : Int) (w : World) (hv' : (v != 0) = true) (hd : Hid (∀ W, Calls Try.prog 30 #[.int .i64 c, .int .i64 n] W fun e w' => e = .returned (.tuple #[.agg #[.int .i64 0, .int .i64 0, .int .i64 0], .int .i64 v]) ∧ Below W.heap.size W w')) :
    Calls Try.prog 10 #[.int .i64 c, .int .i64 n] w (LawPost w) := by
  have hs := Lib.hid sane_any
  go_enter Try.func10, Try.ntmps10
  go_wp2_with fail
  refine (hd.out _).mono ?_
  rintro e w2 ⟨rfl, hb2⟩
  have HB := Lib.hid (kept_more (o := .cells #[.int .i64 0, .int .i64 0, .int .i64 0] 28) hb2)
  clear hb2
  go_wp2_with fail
  refine (hs.out _).mono ?_
  rintro e w3 ⟨rfl, hb3⟩
  have HB3 := Lib.hid (HB.out.trans (hb3.mono HB.out.size))
  clear hb3
  go_wp2_with fail
  go_ret
  exact ⟨rfl, HB3.out⟩

/-- The date's box is kept. -/
structure Kd (B : Nat) (y m d : Int) (w0 W : World) : Prop where
  size : B + 1 ≤ W.heap.size
  below : Below w0.heap.size w0 W
  bx : W.heap[B]? = some (.cells #[.int .i64 y, .int .i64 m, .int .i64 d] 28 (0, 0))
theorem Kd.next {B : Nat} {y m d : Int} {w0 W W' : World} (h : Kd B y m d w0 W) (hb : Below W.heap.size W W') : Kd B y m d w0 W' :=
  ⟨Nat.le_trans h.size hb.size, h.below.trans (hb.mono h.below.size), (hb.block _ h.size).trans h.bx⟩
theorem Kd.start {w w2 : World} (y m d : Int) (h : Below w.heap.size w w2) : Kd w2.heap.size y m d w (w2.alloc (.cells #[.int .i64 y, .int .i64 m, .int .i64 d] 28)) := ⟨by simp, kept_more h, heap_new _ _⟩
theorem Kd.more {B : Nat} {y m d : Int} {w0 W : World} (h : Kd B y m d w0 W) (o : Obj) : Kd B y m d w0 (W.alloc o) := h.next (below_alloc _ _)
theorem Kd.cells {B : Nat} {y m d : Int} {w0 W : World} (h : Kd B y m d w0 W) : W.cell? ⟨B, 0, none⟩ = some (.int .i64 y) ∧ W.cell? ⟨B, 1, none⟩ = some (.int .i64 m) ∧ W.cell? ⟨B, 2, none⟩ = some (.int .i64 d) :=
  ⟨cell_of_heap h.bx 0, cell_of_heap h.bx 1, cell_of_heap h.bx 2⟩

set_option maxRecDepth 100000 in
set_option maxHeartbeats 3200000 in
theorem counts_last (c n m d s l : Int) (w : World) (hd1 : Hid (∀ W, Calls Try.prog 30 #[.int .i64 c, .int .i64 n] W fun e w' => e = .returned (.tuple #[.agg #[.int .i64 9999, .int .i64 m, .int .i64 d], .int .i64 0]) ∧ Below W.heap.size W w')) (hn1 : Hid (∀ W, Calls Try.prog 28 #[.int .i64 c, .agg #[.int .i64 9999, .int .i64 m, .int .i64 d]] W fun e w' => e = .returned (.tuple #[.int .i64 n, .int .i64 0]) ∧ Below W.heap.size W w')) (hy1 : Hid (∀ W, Calls Try.prog 28 #[.int .i64 c, .agg #[.int .i64 9999, .int .i64 1, .int .i64 1]] W fun e w' => e = .returned (.tuple #[.int .i64 s, .int .i64 0]) ∧ Below W.heap.size W w')) (hl1 : Hid (∀ W, Calls Try.prog 24 #[.int .i64 c, .int .i64 9999] W fun e w' => e = .returned (.tuple #[.int .i64 l, .int .i64 0]) ∧ Below W.heap.size W w')) (b0 : -4000000 ≤ n) (b1 : n ≤ 4000000) (b2 : -4000000 ≤ s) (b3 : s ≤ 4000000) (b4 : 0 ≤ l) (b5 : l ≤ 400) (t0 : s ≤ n) (t1 : n < s + l) (hd2 : Hid (∀ W, Calls Try.prog 30 #[.int .i64 c, .int .i64 (n + 1)] W fun e w' => e = .returned (.tuple #[.agg #[.int .i64 0, .int .i64 0, .int .i64 0], .int .i64 21]) ∧ Below W.heap.size W w')) (t2 : (n + 1 == s + l) = true) :
    Calls Try.prog 10 #[.int .i64 c, .int .i64 n] w (LawPost w) := by
  have hs := Lib.hid sane_any
  go_enter Try.func10, Try.ntmps10
  go_wp2_with fail
  refine (hd1.out _).mono ?_
  rintro e w2 ⟨rfl, hb2⟩
  have K2 := Lib.hid (Kd.start 9999 m d hb2)
  clear hb2
  go_wp2_with fail
  refine (hn1.out _).mono ?_
  rintro e w3 ⟨rfl, hb3⟩
  have K3 := Lib.hid (K2.out.next hb3)
  obtain ⟨c0, c1, c2⟩ := K3.out.cells
  clear hb3
  go_wp2_with fail
  refine (hy1.out _).mono ?_
  rintro e w4 ⟨rfl, hb4⟩
  have K4 := Lib.hid (K3.out.next hb4)
  clear c0 c1 c2 hb4
  obtain ⟨c0, c1, c2⟩ := K4.out.cells
  go_wp2_with fail
  refine (hl1.out _).mono ?_
  rintro e w5 ⟨rfl, hb5⟩
  have K5 := Lib.hid (K4.out.next hb5)
  clear c0 c1 c2 hb5
  go_wp2_with fail
  refine (hs.out _).mono ?_
  rintro e w6 ⟨rfl, hb6⟩
  have K6 := Lib.hid (K5.out.next hb6)
  clear hb6
  obtain ⟨c0, c1, c2⟩ := K6.out.cells
  go_wp2_with fail
  refine (hd2.out _).mono ?_
  rintro e w7 ⟨rfl, hb7⟩
  have K7 := Lib.hid ((K6.out.next hb7).more (.cells #[.int .i64 0, .int .i64 0, .int .i64 0] 28))
  clear c0 c1 c2 hb7
  obtain ⟨c0, c1, c2⟩ := K7.out.cells
  go_wp2_with fail
  go_ret
  exact ⟨rfl, K7.out.below⟩

set_option maxRecDepth 100000 in
set_option maxHeartbeats 3200000 in
theorem counts_year_in (c n y m d y2 m2 d2 s l : Int) (w : World) (hd1 : Hid (∀ W, Calls Try.prog 30 #[.int .i64 c, .int .i64 n] W fun e w' => e = .returned (.tuple #[.agg #[.int .i64 y, .int .i64 m, .int .i64 d], .int .i64 0]) ∧ Below W.heap.size W w')) (hn1 : Hid (∀ W, Calls Try.prog 28 #[.int .i64 c, .agg #[.int .i64 y, .int .i64 m, .int .i64 d]] W fun e w' => e = .returned (.tuple #[.int .i64 n, .int .i64 0]) ∧ Below W.heap.size W w')) (hy1 : Hid (∀ W, Calls Try.prog 28 #[.int .i64 c, .agg #[.int .i64 y, .int .i64 1, .int .i64 1]] W fun e w' => e = .returned (.tuple #[.int .i64 s, .int .i64 0]) ∧ Below W.heap.size W w')) (hl1 : Hid (∀ W, Calls Try.prog 24 #[.int .i64 c, .int .i64 y] W fun e w' => e = .returned (.tuple #[.int .i64 l, .int .i64 0]) ∧ Below W.heap.size W w')) (b0 : -4000000 ≤ n) (b1 : n ≤ 4000000) (b2 : -4000000 ≤ s) (b3 : s ≤ 4000000) (b4 : 0 ≤ l) (b5 : l ≤ 400) (t0 : s ≤ n) (t1 : n < s + l) (hd2 : Hid (∀ W, Calls Try.prog 30 #[.int .i64 c, .int .i64 (n + 1)] W fun e w' => e = .returned (.tuple #[.agg #[.int .i64 y2, .int .i64 m2, .int .i64 d2], .int .i64 0]) ∧ Below W.heap.size W w')) (q1 : decide (y < y2) = true) (hz : Hid (∀ W, Calls Try.prog 28 #[.int .i64 c, .agg #[.int .i64 (y + 1), .int .i64 1, .int .i64 1]] W fun e w' => e = .returned (.tuple #[.int .i64 (s + l), .int .i64 0]) ∧ Below W.heap.size W w')) (hy9 : -9999 ≤ y) (hy8 : y ≤ 9998) :
    Calls Try.prog 10 #[.int .i64 c, .int .i64 n] w (LawPost w) := by
  have hs := Lib.hid sane_any
  go_enter Try.func10, Try.ntmps10
  go_wp2_with fail
  refine (hd1.out _).mono ?_
  rintro e w2 ⟨rfl, hb2⟩
  have K2 := Lib.hid (Kd.start y m d hb2)
  clear hb2
  go_wp2_with fail
  refine (hn1.out _).mono ?_
  rintro e w3 ⟨rfl, hb3⟩
  have K3 := Lib.hid (K2.out.next hb3)
  obtain ⟨c0, c1, c2⟩ := K3.out.cells
  clear hb3
  go_wp2_with fail
  refine (hy1.out _).mono ?_
  rintro e w4 ⟨rfl, hb4⟩
  have K4 := Lib.hid (K3.out.next hb4)
  clear c0 c1 c2 hb4
  obtain ⟨c0, c1, c2⟩ := K4.out.cells
  go_wp2_with fail
  refine (hl1.out _).mono ?_
  rintro e w5 ⟨rfl, hb5⟩
  have K5 := Lib.hid (K4.out.next hb5)
  clear c0 c1 c2 hb5
  go_wp2_with fail
  refine (hs.out _).mono ?_
  rintro e w6 ⟨rfl, hb6⟩
  have K6 := Lib.hid (K5.out.next hb6)
  clear hb6
  obtain ⟨c0, c1, c2⟩ := K6.out.cells
  go_wp2_with fail
  refine (hd2.out _).mono ?_
  rintro e w7 ⟨rfl, hb7⟩
  have K7 := Lib.hid ((K6.out.next hb7).more (.cells #[.int .i64 y2, .int .i64 m2, .int .i64 d2] 28))
  clear c0 c1 c2 hb7
  obtain ⟨c0, c1, c2⟩ := K7.out.cells
  go_wp2_with fail
  refine (hz.out _).mono ?_
  rintro e w8 ⟨rfl, hb8⟩
  have K8 := Lib.hid (K7.out.next hb8)
  clear c0 c1 c2 hb8
  obtain ⟨c0, c1, c2⟩ := K8.out.cells
  go_wp2_with fail
  go_ret
  exact ⟨rfl, K8.out.below⟩

set_option maxRecDepth 100000 in
set_option maxHeartbeats 3200000 in
theorem counts_month_in (c n y m d m2 d2 s l : Int) (w : World) (hd1 : Hid (∀ W, Calls Try.prog 30 #[.int .i64 c, .int .i64 n] W fun e w' => e = .returned (.tuple #[.agg #[.int .i64 y, .int .i64 m, .int .i64 d], .int .i64 0]) ∧ Below W.heap.size W w')) (hn1 : Hid (∀ W, Calls Try.prog 28 #[.int .i64 c, .agg #[.int .i64 y, .int .i64 m, .int .i64 d]] W fun e w' => e = .returned (.tuple #[.int .i64 n, .int .i64 0]) ∧ Below W.heap.size W w')) (hy1 : Hid (∀ W, Calls Try.prog 28 #[.int .i64 c, .agg #[.int .i64 y, .int .i64 1, .int .i64 1]] W fun e w' => e = .returned (.tuple #[.int .i64 s, .int .i64 0]) ∧ Below W.heap.size W w')) (hl1 : Hid (∀ W, Calls Try.prog 24 #[.int .i64 c, .int .i64 y] W fun e w' => e = .returned (.tuple #[.int .i64 l, .int .i64 0]) ∧ Below W.heap.size W w')) (b0 : -4000000 ≤ n) (b1 : n ≤ 4000000) (b2 : -4000000 ≤ s) (b3 : s ≤ 4000000) (b4 : 0 ≤ l) (b5 : l ≤ 400) (t0 : s ≤ n) (t1 : n < s + l) (hd2 : Hid (∀ W, Calls Try.prog 30 #[.int .i64 c, .int .i64 (n + 1)] W fun e w' => e = .returned (.tuple #[.agg #[.int .i64 y, .int .i64 m2, .int .i64 d2], .int .i64 0]) ∧ Below W.heap.size W w')) (q2 : decide (m < m2) = true) (hz : Hid (∀ W, Calls Try.prog 28 #[.int .i64 c, .agg #[.int .i64 (y + 1), .int .i64 1, .int .i64 1]] W fun e w' => e = .returned (.tuple #[.int .i64 (s + l), .int .i64 0]) ∧ Below W.heap.size W w')) (hy9 : -9999 ≤ y) (hy8 : y ≤ 9998) :
    Calls Try.prog 10 #[.int .i64 c, .int .i64 n] w (LawPost w) := by
  have hs := Lib.hid sane_any
  go_enter Try.func10, Try.ntmps10
  go_wp2_with fail
  refine (hd1.out _).mono ?_
  rintro e w2 ⟨rfl, hb2⟩
  have K2 := Lib.hid (Kd.start y m d hb2)
  clear hb2
  go_wp2_with fail
  refine (hn1.out _).mono ?_
  rintro e w3 ⟨rfl, hb3⟩
  have K3 := Lib.hid (K2.out.next hb3)
  obtain ⟨c0, c1, c2⟩ := K3.out.cells
  clear hb3
  go_wp2_with fail
  refine (hy1.out _).mono ?_
  rintro e w4 ⟨rfl, hb4⟩
  have K4 := Lib.hid (K3.out.next hb4)
  clear c0 c1 c2 hb4
  obtain ⟨c0, c1, c2⟩ := K4.out.cells
  go_wp2_with fail
  refine (hl1.out _).mono ?_
  rintro e w5 ⟨rfl, hb5⟩
  have K5 := Lib.hid (K4.out.next hb5)
  clear c0 c1 c2 hb5
  go_wp2_with fail
  refine (hs.out _).mono ?_
  rintro e w6 ⟨rfl, hb6⟩
  have K6 := Lib.hid (K5.out.next hb6)
  clear hb6
  obtain ⟨c0, c1, c2⟩ := K6.out.cells
  go_wp2_with fail
  refine (hd2.out _).mono ?_
  rintro e w7 ⟨rfl, hb7⟩
  have K7 := Lib.hid ((K6.out.next hb7).more (.cells #[.int .i64 y, .int .i64 m2, .int .i64 d2] 28))
  clear c0 c1 c2 hb7
  obtain ⟨c0, c1, c2⟩ := K7.out.cells
  go_wp2_with fail
  refine (hz.out _).mono ?_
  rintro e w8 ⟨rfl, hb8⟩
  have K8 := Lib.hid (K7.out.next hb8)
  clear c0 c1 c2 hb8
  obtain ⟨c0, c1, c2⟩ := K8.out.cells
  go_wp2_with fail
  go_ret
  exact ⟨rfl, K8.out.below⟩

set_option maxRecDepth 100000 in
set_option maxHeartbeats 3200000 in
theorem counts_day_in (c n y m d d2 s l : Int) (w : World) (hd1 : Hid (∀ W, Calls Try.prog 30 #[.int .i64 c, .int .i64 n] W fun e w' => e = .returned (.tuple #[.agg #[.int .i64 y, .int .i64 m, .int .i64 d], .int .i64 0]) ∧ Below W.heap.size W w')) (hn1 : Hid (∀ W, Calls Try.prog 28 #[.int .i64 c, .agg #[.int .i64 y, .int .i64 m, .int .i64 d]] W fun e w' => e = .returned (.tuple #[.int .i64 n, .int .i64 0]) ∧ Below W.heap.size W w')) (hy1 : Hid (∀ W, Calls Try.prog 28 #[.int .i64 c, .agg #[.int .i64 y, .int .i64 1, .int .i64 1]] W fun e w' => e = .returned (.tuple #[.int .i64 s, .int .i64 0]) ∧ Below W.heap.size W w')) (hl1 : Hid (∀ W, Calls Try.prog 24 #[.int .i64 c, .int .i64 y] W fun e w' => e = .returned (.tuple #[.int .i64 l, .int .i64 0]) ∧ Below W.heap.size W w')) (b0 : -4000000 ≤ n) (b1 : n ≤ 4000000) (b2 : -4000000 ≤ s) (b3 : s ≤ 4000000) (b4 : 0 ≤ l) (b5 : l ≤ 400) (t0 : s ≤ n) (t1 : n < s + l) (hd2 : Hid (∀ W, Calls Try.prog 30 #[.int .i64 c, .int .i64 (n + 1)] W fun e w' => e = .returned (.tuple #[.agg #[.int .i64 y, .int .i64 m, .int .i64 d2], .int .i64 0]) ∧ Below W.heap.size W w')) (q2 : decide (d < d2) = true) (hz : Hid (∀ W, Calls Try.prog 28 #[.int .i64 c, .agg #[.int .i64 (y + 1), .int .i64 1, .int .i64 1]] W fun e w' => e = .returned (.tuple #[.int .i64 (s + l), .int .i64 0]) ∧ Below W.heap.size W w')) (hy9 : -9999 ≤ y) (hy8 : y ≤ 9998) :
    Calls Try.prog 10 #[.int .i64 c, .int .i64 n] w (LawPost w) := by
  have hs := Lib.hid sane_any
  go_enter Try.func10, Try.ntmps10
  go_wp2_with fail
  refine (hd1.out _).mono ?_
  rintro e w2 ⟨rfl, hb2⟩
  have K2 := Lib.hid (Kd.start y m d hb2)
  clear hb2
  go_wp2_with fail
  refine (hn1.out _).mono ?_
  rintro e w3 ⟨rfl, hb3⟩
  have K3 := Lib.hid (K2.out.next hb3)
  obtain ⟨c0, c1, c2⟩ := K3.out.cells
  clear hb3
  go_wp2_with fail
  refine (hy1.out _).mono ?_
  rintro e w4 ⟨rfl, hb4⟩
  have K4 := Lib.hid (K3.out.next hb4)
  clear c0 c1 c2 hb4
  obtain ⟨c0, c1, c2⟩ := K4.out.cells
  go_wp2_with fail
  refine (hl1.out _).mono ?_
  rintro e w5 ⟨rfl, hb5⟩
  have K5 := Lib.hid (K4.out.next hb5)
  clear c0 c1 c2 hb5
  go_wp2_with fail
  refine (hs.out _).mono ?_
  rintro e w6 ⟨rfl, hb6⟩
  have K6 := Lib.hid (K5.out.next hb6)
  clear hb6
  obtain ⟨c0, c1, c2⟩ := K6.out.cells
  go_wp2_with fail
  refine (hd2.out _).mono ?_
  rintro e w7 ⟨rfl, hb7⟩
  have K7 := Lib.hid ((K6.out.next hb7).more (.cells #[.int .i64 y, .int .i64 m, .int .i64 d2] 28))
  clear c0 c1 c2 hb7
  obtain ⟨c0, c1, c2⟩ := K7.out.cells
  go_wp2_with fail
  refine (hz.out _).mono ?_
  rintro e w8 ⟨rfl, hb8⟩
  have K8 := Lib.hid (K7.out.next hb8)
  clear c0 c1 c2 hb8
  obtain ⟨c0, c1, c2⟩ := K8.out.cells
  go_wp2_with fail
  go_ret
  exact ⟨rfl, K8.out.below⟩

set_option maxRecDepth 100000 in
set_option maxHeartbeats 3200000 in
theorem counts_month_end (c n m d m2 d2 s l : Int) (w : World) (hd1 : Hid (∀ W, Calls Try.prog 30 #[.int .i64 c, .int .i64 n] W fun e w' => e = .returned (.tuple #[.agg #[.int .i64 9999, .int .i64 m, .int .i64 d], .int .i64 0]) ∧ Below W.heap.size W w')) (hn1 : Hid (∀ W, Calls Try.prog 28 #[.int .i64 c, .agg #[.int .i64 9999, .int .i64 m, .int .i64 d]] W fun e w' => e = .returned (.tuple #[.int .i64 n, .int .i64 0]) ∧ Below W.heap.size W w')) (hy1 : Hid (∀ W, Calls Try.prog 28 #[.int .i64 c, .agg #[.int .i64 9999, .int .i64 1, .int .i64 1]] W fun e w' => e = .returned (.tuple #[.int .i64 s, .int .i64 0]) ∧ Below W.heap.size W w')) (hl1 : Hid (∀ W, Calls Try.prog 24 #[.int .i64 c, .int .i64 9999] W fun e w' => e = .returned (.tuple #[.int .i64 l, .int .i64 0]) ∧ Below W.heap.size W w')) (b0 : -4000000 ≤ n) (b1 : n ≤ 4000000) (b2 : -4000000 ≤ s) (b3 : s ≤ 4000000) (b4 : 0 ≤ l) (b5 : l ≤ 400) (t0 : s ≤ n) (t1 : n < s + l) (hd2 : Hid (∀ W, Calls Try.prog 30 #[.int .i64 c, .int .i64 (n + 1)] W fun e w' => e = .returned (.tuple #[.agg #[.int .i64 9999, .int .i64 m2, .int .i64 d2], .int .i64 0]) ∧ Below W.heap.size W w')) (q2 : decide (m < m2) = true) (hz : Hid (∀ W, Calls Try.prog 28 #[.int .i64 c, .agg #[.int .i64 10000, .int .i64 1, .int .i64 1]] W fun e w' => e = .returned (.tuple #[.int .i64 0, .int .i64 21]) ∧ Below W.heap.size W w'))  :
    Calls Try.prog 10 #[.int .i64 c, .int .i64 n] w (LawPost w) := by
  have hs := Lib.hid sane_any
  go_enter Try.func10, Try.ntmps10
  go_wp2_with fail
  refine (hd1.out _).mono ?_
  rintro e w2 ⟨rfl, hb2⟩
  have K2 := Lib.hid (Kd.start 9999 m d hb2)
  clear hb2
  go_wp2_with fail
  refine (hn1.out _).mono ?_
  rintro e w3 ⟨rfl, hb3⟩
  have K3 := Lib.hid (K2.out.next hb3)
  obtain ⟨c0, c1, c2⟩ := K3.out.cells
  clear hb3
  go_wp2_with fail
  refine (hy1.out _).mono ?_
  rintro e w4 ⟨rfl, hb4⟩
  have K4 := Lib.hid (K3.out.next hb4)
  clear c0 c1 c2 hb4
  obtain ⟨c0, c1, c2⟩ := K4.out.cells
  go_wp2_with fail
  refine (hl1.out _).mono ?_
  rintro e w5 ⟨rfl, hb5⟩
  have K5 := Lib.hid (K4.out.next hb5)
  clear c0 c1 c2 hb5
  go_wp2_with fail
  refine (hs.out _).mono ?_
  rintro e w6 ⟨rfl, hb6⟩
  have K6 := Lib.hid (K5.out.next hb6)
  clear hb6
  obtain ⟨c0, c1, c2⟩ := K6.out.cells
  go_wp2_with fail
  refine (hd2.out _).mono ?_
  rintro e w7 ⟨rfl, hb7⟩
  have K7 := Lib.hid ((K6.out.next hb7).more (.cells #[.int .i64 9999, .int .i64 m2, .int .i64 d2] 28))
  clear c0 c1 c2 hb7
  obtain ⟨c0, c1, c2⟩ := K7.out.cells
  go_wp2_with fail
  refine (hz.out _).mono ?_
  rintro e w8 ⟨rfl, hb8⟩
  have K8 := Lib.hid (K7.out.next hb8)
  clear c0 c1 c2 hb8
  obtain ⟨c0, c1, c2⟩ := K8.out.cells
  go_wp2_with fail
  go_ret
  exact ⟨rfl, K8.out.below⟩

set_option maxRecDepth 100000 in
set_option maxHeartbeats 3200000 in
theorem counts_day_end (c n m d d2 s l : Int) (w : World) (hd1 : Hid (∀ W, Calls Try.prog 30 #[.int .i64 c, .int .i64 n] W fun e w' => e = .returned (.tuple #[.agg #[.int .i64 9999, .int .i64 m, .int .i64 d], .int .i64 0]) ∧ Below W.heap.size W w')) (hn1 : Hid (∀ W, Calls Try.prog 28 #[.int .i64 c, .agg #[.int .i64 9999, .int .i64 m, .int .i64 d]] W fun e w' => e = .returned (.tuple #[.int .i64 n, .int .i64 0]) ∧ Below W.heap.size W w')) (hy1 : Hid (∀ W, Calls Try.prog 28 #[.int .i64 c, .agg #[.int .i64 9999, .int .i64 1, .int .i64 1]] W fun e w' => e = .returned (.tuple #[.int .i64 s, .int .i64 0]) ∧ Below W.heap.size W w')) (hl1 : Hid (∀ W, Calls Try.prog 24 #[.int .i64 c, .int .i64 9999] W fun e w' => e = .returned (.tuple #[.int .i64 l, .int .i64 0]) ∧ Below W.heap.size W w')) (b0 : -4000000 ≤ n) (b1 : n ≤ 4000000) (b2 : -4000000 ≤ s) (b3 : s ≤ 4000000) (b4 : 0 ≤ l) (b5 : l ≤ 400) (t0 : s ≤ n) (t1 : n < s + l) (hd2 : Hid (∀ W, Calls Try.prog 30 #[.int .i64 c, .int .i64 (n + 1)] W fun e w' => e = .returned (.tuple #[.agg #[.int .i64 9999, .int .i64 m, .int .i64 d2], .int .i64 0]) ∧ Below W.heap.size W w')) (q2 : decide (d < d2) = true) (hz : Hid (∀ W, Calls Try.prog 28 #[.int .i64 c, .agg #[.int .i64 10000, .int .i64 1, .int .i64 1]] W fun e w' => e = .returned (.tuple #[.int .i64 0, .int .i64 21]) ∧ Below W.heap.size W w'))  :
    Calls Try.prog 10 #[.int .i64 c, .int .i64 n] w (LawPost w) := by
  have hs := Lib.hid sane_any
  go_enter Try.func10, Try.ntmps10
  go_wp2_with fail
  refine (hd1.out _).mono ?_
  rintro e w2 ⟨rfl, hb2⟩
  have K2 := Lib.hid (Kd.start 9999 m d hb2)
  clear hb2
  go_wp2_with fail
  refine (hn1.out _).mono ?_
  rintro e w3 ⟨rfl, hb3⟩
  have K3 := Lib.hid (K2.out.next hb3)
  obtain ⟨c0, c1, c2⟩ := K3.out.cells
  clear hb3
  go_wp2_with fail
  refine (hy1.out _).mono ?_
  rintro e w4 ⟨rfl, hb4⟩
  have K4 := Lib.hid (K3.out.next hb4)
  clear c0 c1 c2 hb4
  obtain ⟨c0, c1, c2⟩ := K4.out.cells
  go_wp2_with fail
  refine (hl1.out _).mono ?_
  rintro e w5 ⟨rfl, hb5⟩
  have K5 := Lib.hid (K4.out.next hb5)
  clear c0 c1 c2 hb5
  go_wp2_with fail
  refine (hs.out _).mono ?_
  rintro e w6 ⟨rfl, hb6⟩
  have K6 := Lib.hid (K5.out.next hb6)
  clear hb6
  obtain ⟨c0, c1, c2⟩ := K6.out.cells
  go_wp2_with fail
  refine (hd2.out _).mono ?_
  rintro e w7 ⟨rfl, hb7⟩
  have K7 := Lib.hid ((K6.out.next hb7).more (.cells #[.int .i64 9999, .int .i64 m, .int .i64 d2] 28))
  clear c0 c1 c2 hb7
  obtain ⟨c0, c1, c2⟩ := K7.out.cells
  go_wp2_with fail
  refine (hz.out _).mono ?_
  rintro e w8 ⟨rfl, hb8⟩
  have K8 := Lib.hid (K7.out.next hb8)
  clear c0 c1 c2 hb8
  obtain ⟨c0, c1, c2⟩ := K8.out.cells
  go_wp2_with fail
  go_ret
  exact ⟨rfl, K8.out.below⟩
end Go.Proofs.Ythpeaeepcbbfcaa
