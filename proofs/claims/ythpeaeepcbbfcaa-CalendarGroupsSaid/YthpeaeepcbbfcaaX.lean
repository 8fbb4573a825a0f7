/- The law CalendarKeys. -/
import Derived.Test.YthpeaeepcbbfcaaV
namespace Go.Proofs.Ythpeaeepcbbfcaa
open Go.RowKit

theorem key_cases (c n x : Int) : (isCal c ∧ 1 ≤ x ∧ x ≤ 4 ∧ ∃ y m d, Ok c y m d ∧ num c y m d = n ∧ Hid (∀ W, Calls Try.prog 41 #[.int .i64 c, .int .i64 n, .int .i64 x] W fun e w' => e = .returned (.tuple #[.int .i64 (keyD y m n x), .int .i64 0]) ∧ Below W.heap.size W w') ∧ Hid (∀ W, Calls Try.prog 39 #[.int .i64 c, .int .i64 n, .int .i64 x] W fun e w' => e = .returned (.tuple #[.int .i64 (fieldD c y m d x), .int .i64 0]) ∧ Below W.heap.size W w')) ∨ ∃ v, (v != 0) = true ∧ Hid (∀ W, Calls Try.prog 41 #[.int .i64 c, .int .i64 n, .int .i64 x] W fun e w' => e = .returned (.tuple #[.int .i64 0, .int .i64 v]) ∧ Below W.heap.size W w') ∧ Hid (∀ W, Calls Try.prog 39 #[.int .i64 c, .int .i64 n, .int .i64 x] W fun e w' => e = .returned (.tuple #[.int .i64 0, .int .i64 v]) ∧ Below W.heap.size W w') := by
  by_cases hc : isCal c
  · by_cases hx : 1 ≤ x ∧ x ≤ 4
    · rcases date_cases c n with ⟨y, m, d, hok, hnum⟩ | hn
      · exact .inl ⟨hc, hx.1, hx.2, y, m, d, hok, hnum, Lib.hid (fun W => key_yes c n x W hc hx.1 hx.2 y m d hok hnum), Lib.hid (fun W => field_yes c n x W hc hx.1 hx.2 y m d hok hnum)⟩
      · exact .inr ⟨21, by decide, Lib.hid (fun W => key_range c n x W hc hx.1 hx.2 hn), Lib.hid (fun W => field_range c n x W hc hx.1 hx.2 hn)⟩
    · exact .inr ⟨22, by decide, Lib.hid (fun W => key_nofield c n x W hc hx), Lib.hid (fun W => field_nofield c n x W hc hx)⟩
  · exact .inr ⟨20, by decide, Lib.hid (fun W => key_nocal c n x W hc), Lib.hid (fun W => field_nocal c n x W hc)⟩

/-- The pair's box is kept. -/
structure Pk (B : Nat) (a b : Int) (w0 W : World) : Prop where
  size : B + 1 ≤ W.heap.size
  below : Below w0.heap.size w0 W
  bx : W.heap[B]? = some (.cells #[.int .i64 a, .int .i64 b] 59 (0, 0))
theorem Pk.next {B : Nat} {a b : Int} {w0 W W' : World} (h : Pk B a b w0 W) (hb : Below W.heap.size W W') : Pk B a b w0 W' :=
  ⟨Nat.le_trans h.size hb.size, h.below.trans (hb.mono h.below.size), (hb.block _ h.size).trans h.bx⟩
theorem Pk.cells {B : Nat} {a b : Int} {w0 W : World} (h : Pk B a b w0 W) : W.cell? ⟨B, 0, none⟩ = some (.int .i64 a) ∧ W.cell? ⟨B, 1, none⟩ = some (.int .i64 b) :=
  ⟨cell_of_heap h.bx 0, cell_of_heap h.bx 1⟩

set_option maxRecDepth 100000 in
set_option maxHeartbeats 3200000 in
theorem keys_err1 (c x a b v1 v2 e1 e2 : Int) (w : World) (hk1 : Hid (∀ W, Calls Try.prog 41 #[.int .i64 c, .int .i64 a, .int .i64 x] W fun e w' => e = .returned (.tuple #[.int .i64 v1, .int .i64 e1]) ∧ Below W.heap.size W w')) (hk2 : Hid (∀ W, Calls Try.prog 41 #[.int .i64 c, .int .i64 b, .int .i64 x] W fun e w' => e = .returned (.tuple #[.int .i64 v2, .int .i64 e2]) ∧ Below W.heap.size W w')) (t1 : (e1 != 0) = true) : Calls Try.prog 14 #[.int .i64 c, .int .i64 x, .agg #[.int .i64 a, .int .i64 b]] w (LawPost w) := by
  have hs := Lib.hid sane_any
  go_enter Try.func14, Try.ntmps14
  go_wp2_with fail
  refine (hk1.out _).mono ?_
  rintro e w2 ⟨rfl, hb2⟩
  obtain ⟨Hx, Hb, -⟩ := kept_box hb2
  have K2 := Lib.hid (show Pk w.heap.size a b w w2 from ⟨(kept_box hb2).2.2, Hb, Hx⟩)
  obtain ⟨c0, c1⟩ := K2.out.cells
  clear hb2 Hb Hx
  go_wp2_with fail
  refine (hk2.out _).mono ?_
  rintro e w3 ⟨rfl, hb3⟩
  have K3 := Lib.hid (K2.out.next hb3)
  clear c0 c1 hb3
  obtain ⟨c0, c1⟩ := K3.out.cells
  go_wp2_with fail
  refine (hs.out _).mono ?_
  rintro e w4 ⟨rfl, hb4⟩
  have K4 := Lib.hid (K3.out.next hb4)
  clear c0 c1 hb4
  obtain ⟨c0, c1⟩ := K4.out.cells
  go_wp2_with fail
  go_ret
  exact ⟨rfl, K4.out.below⟩

set_option maxRecDepth 100000 in
set_option maxHeartbeats 3200000 in
theorem keys_err2 (c x a b v1 v2 e2 : Int) (w : World) (hk1 : Hid (∀ W, Calls Try.prog 41 #[.int .i64 c, .int .i64 a, .int .i64 x] W fun e w' => e = .returned (.tuple #[.int .i64 v1, .int .i64 0]) ∧ Below W.heap.size W w')) (hk2 : Hid (∀ W, Calls Try.prog 41 #[.int .i64 c, .int .i64 b, .int .i64 x] W fun e w' => e = .returned (.tuple #[.int .i64 v2, .int .i64 e2]) ∧ Below W.heap.size W w')) (t1 : (e2 != 0) = true) : Calls Try.prog 14 #[.int .i64 c, .int .i64 x, .agg #[.int .i64 a, .int .i64 b]] w (LawPost w) := by
  have hs := Lib.hid sane_any
  go_enter Try.func14, Try.ntmps14
  go_wp2_with fail
  refine (hk1.out _).mono ?_
  rintro e w2 ⟨rfl, hb2⟩
  obtain ⟨Hx, Hb, -⟩ := kept_box hb2
  have K2 := Lib.hid (show Pk w.heap.size a b w w2 from ⟨(kept_box hb2).2.2, Hb, Hx⟩)
  obtain ⟨c0, c1⟩ := K2.out.cells
  clear hb2 Hb Hx
  go_wp2_with fail
  refine (hk2.out _).mono ?_
  rintro e w3 ⟨rfl, hb3⟩
  have K3 := Lib.hid (K2.out.next hb3)
  clear c0 c1 hb3
  obtain ⟨c0, c1⟩ := K3.out.cells
  go_wp2_with fail
  refine (hs.out _).mono ?_
  rintro e w4 ⟨rfl, hb4⟩
  have K4 := Lib.hid (K3.out.next hb4)
  clear c0 c1 hb4
  obtain ⟨c0, c1⟩ := K4.out.cells
  go_wp2_with fail
  go_ret
  exact ⟨rfl, K4.out.below⟩

set_option maxRecDepth 100000 in
set_option maxHeartbeats 3200000 in
theorem keys_lt (c x a b u v p q : Int) (w : World) (hk1 : Hid (∀ W, Calls Try.prog 41 #[.int .i64 c, .int .i64 a, .int .i64 x] W fun e w' => e = .returned (.tuple #[.int .i64 u, .int .i64 0]) ∧ Below W.heap.size W w')) (hk2 : Hid (∀ W, Calls Try.prog 41 #[.int .i64 c, .int .i64 b, .int .i64 x] W fun e w' => e = .returned (.tuple #[.int .i64 v, .int .i64 0]) ∧ Below W.heap.size W w')) (hf1 : Hid (∀ W, Calls Try.prog 39 #[.int .i64 c, .int .i64 a, .int .i64 x] W fun e w' => e = .returned (.tuple #[.int .i64 p, .int .i64 0]) ∧ Below W.heap.size W w')) (hf2 : Hid (∀ W, Calls Try.prog 39 #[.int .i64 c, .int .i64 b, .int .i64 x] W fun e w' => e = .returned (.tuple #[.int .i64 q, .int .i64 0]) ∧ Below W.heap.size W w')) (t1 : decide (a ≤ b) = true) (t2 : decide (b ≤ a) = false) (t3 : decide (v < u) = false) (t5 : (u != v) = true) : Calls Try.prog 14 #[.int .i64 c, .int .i64 x, .agg #[.int .i64 a, .int .i64 b]] w (LawPost w) := by
  have hs := Lib.hid sane_any
  go_enter Try.func14, Try.ntmps14
  go_wp2_with fail
  refine (hk1.out _).mono ?_
  rintro e w2 ⟨rfl, hb2⟩
  obtain ⟨Hx, Hb, -⟩ := kept_box hb2
  have K2 := Lib.hid (show Pk w.heap.size a b w w2 from ⟨(kept_box hb2).2.2, Hb, Hx⟩)
  obtain ⟨c0, c1⟩ := K2.out.cells
  clear hb2 Hb Hx
  go_wp2_with fail
  refine (hk2.out _).mono ?_
  rintro e w3 ⟨rfl, hb3⟩
  have K3 := Lib.hid (K2.out.next hb3)
  clear c0 c1 hb3
  obtain ⟨c0, c1⟩ := K3.out.cells
  go_wp2_with fail
  refine (hs.out _).mono ?_
  rintro e w4 ⟨rfl, hb4⟩
  have K4 := Lib.hid (K3.out.next hb4)
  clear c0 c1 hb4
  obtain ⟨c0, c1⟩ := K4.out.cells
  go_wp2_with fail
  refine (hf1.out _).mono ?_
  rintro e w5 ⟨rfl, hb5⟩
  have K5 := Lib.hid (K4.out.next hb5)
  clear c0 c1 hb5
  obtain ⟨c0, c1⟩ := K5.out.cells
  go_wp2_with fail
  refine (hf2.out _).mono ?_
  rintro e w6 ⟨rfl, hb6⟩
  have K6 := Lib.hid (K5.out.next hb6)
  clear c0 c1 hb6
  go_wp2_with fail
  go_ret
  exact ⟨rfl, K6.out.below⟩

set_option maxRecDepth 100000 in
set_option maxHeartbeats 3200000 in
theorem keys_le (c x a b u p : Int) (w : World) (hk1 : Hid (∀ W, Calls Try.prog 41 #[.int .i64 c, .int .i64 a, .int .i64 x] W fun e w' => e = .returned (.tuple #[.int .i64 u, .int .i64 0]) ∧ Below W.heap.size W w')) (hk2 : Hid (∀ W, Calls Try.prog 41 #[.int .i64 c, .int .i64 b, .int .i64 x] W fun e w' => e = .returned (.tuple #[.int .i64 u, .int .i64 0]) ∧ Below W.heap.size W w')) (hf1 : Hid (∀ W, Calls Try.prog 39 #[.int .i64 c, .int .i64 a, .int .i64 x] W fun e w' => e = .returned (.tuple #[.int .i64 p, .int .i64 0]) ∧ Below W.heap.size W w')) (hf2 : Hid (∀ W, Calls Try.prog 39 #[.int .i64 c, .int .i64 b, .int .i64 x] W fun e w' => e = .returned (.tuple #[.int .i64 p, .int .i64 0]) ∧ Below W.heap.size W w')) (t1 : decide (a ≤ b) = true) (t2 : decide (b ≤ a) = false) : Calls Try.prog 14 #[.int .i64 c, .int .i64 x, .agg #[.int .i64 a, .int .i64 b]] w (LawPost w) := by
  have hs := Lib.hid sane_any
  go_enter Try.func14, Try.ntmps14
  go_wp2_with fail
  refine (hk1.out _).mono ?_
  rintro e w2 ⟨rfl, hb2⟩
  obtain ⟨Hx, Hb, -⟩ := kept_box hb2
  have K2 := Lib.hid (show Pk w.heap.size a b w w2 from ⟨(kept_box hb2).2.2, Hb, Hx⟩)
  obtain ⟨c0, c1⟩ := K2.out.cells
  clear hb2 Hb Hx
  go_wp2_with fail
  refine (hk2.out _).mono ?_
  rintro e w3 ⟨rfl, hb3⟩
  have K3 := Lib.hid (K2.out.next hb3)
  clear c0 c1 hb3
  obtain ⟨c0, c1⟩ := K3.out.cells
  go_wp2_with fail
  refine (hs.out _).mono ?_
  rintro e w4 ⟨rfl, hb4⟩
  have K4 := Lib.hid (K3.out.next hb4)
  clear c0 c1 hb4
  obtain ⟨c0, c1⟩ := K4.out.cells
  go_wp2_with fail
  refine (hf1.out _).mono ?_
  rintro e w5 ⟨rfl, hb5⟩
  have K5 := Lib.hid (K4.out.next hb5)
  clear c0 c1 hb5
  obtain ⟨c0, c1⟩ := K5.out.cells
  go_wp2_with fail
  refine (hf2.out _).mono ?_
  rintro e w6 ⟨rfl, hb6⟩
  have K6 := Lib.hid (K5.out.next hb6)
  clear c0 c1 hb6
  go_wp2_with fail
  go_ret
  exact ⟨rfl, K6.out.below⟩

set_option maxRecDepth 100000 in
set_option maxHeartbeats 3200000 in
theorem keys_eq (c x a u p : Int) (w : World) (hk1 : Hid (∀ W, Calls Try.prog 41 #[.int .i64 c, .int .i64 a, .int .i64 x] W fun e w' => e = .returned (.tuple #[.int .i64 u, .int .i64 0]) ∧ Below W.heap.size W w')) (hk2 : Hid (∀ W, Calls Try.prog 41 #[.int .i64 c, .int .i64 a, .int .i64 x] W fun e w' => e = .returned (.tuple #[.int .i64 u, .int .i64 0]) ∧ Below W.heap.size W w')) (hf1 : Hid (∀ W, Calls Try.prog 39 #[.int .i64 c, .int .i64 a, .int .i64 x] W fun e w' => e = .returned (.tuple #[.int .i64 p, .int .i64 0]) ∧ Below W.heap.size W w')) (hf2 : Hid (∀ W, Calls Try.prog 39 #[.int .i64 c, .int .i64 a, .int .i64 x] W fun e w' => e = .returned (.tuple #[.int .i64 p, .int .i64 0]) ∧ Below W.heap.size W w'))  : Calls Try.prog 14 #[.int .i64 c, .int .i64 x, .agg #[.int .i64 a, .int .i64 a]] w (LawPost w) := by
  have hs := Lib.hid sane_any
  go_enter Try.func14, Try.ntmps14
  go_wp2_with fail
  refine (hk1.out _).mono ?_
  rintro e w2 ⟨rfl, hb2⟩
  obtain ⟨Hx, Hb, -⟩ := kept_box hb2
  have K2 := Lib.hid (show Pk w.heap.size a a w w2 from ⟨(kept_box hb2).2.2, Hb, Hx⟩)
  obtain ⟨c0, c1⟩ := K2.out.cells
  clear hb2 Hb Hx
  go_wp2_with fail
  refine (hk2.out _).mono ?_
  rintro e w3 ⟨rfl, hb3⟩
  have K3 := Lib.hid (K2.out.next hb3)
  clear c0 c1 hb3
  obtain ⟨c0, c1⟩ := K3.out.cells
  go_wp2_with fail
  refine (hs.out _).mono ?_
  rintro e w4 ⟨rfl, hb4⟩
  have K4 := Lib.hid (K3.out.next hb4)
  clear c0 c1 hb4
  obtain ⟨c0, c1⟩ := K4.out.cells
  go_wp2_with fail
  refine (hf1.out _).mono ?_
  rintro e w5 ⟨rfl, hb5⟩
  have K5 := Lib.hid (K4.out.next hb5)
  clear c0 c1 hb5
  obtain ⟨c0, c1⟩ := K5.out.cells
  go_wp2_with fail
  refine (hf2.out _).mono ?_
  rintro e w6 ⟨rfl, hb6⟩
  have K6 := Lib.hid (K5.out.next hb6)
  clear c0 c1 hb6
  go_wp2_with fail
  go_ret
  exact ⟨rfl, K6.out.below⟩

set_option maxRecDepth 100000 in
set_option maxHeartbeats 3200000 in
theorem keys_gt (c x a b u v p q : Int) (w : World) (hk1 : Hid (∀ W, Calls Try.prog 41 #[.int .i64 c, .int .i64 a, .int .i64 x] W fun e w' => e = .returned (.tuple #[.int .i64 u, .int .i64 0]) ∧ Below W.heap.size W w')) (hk2 : Hid (∀ W, Calls Try.prog 41 #[.int .i64 c, .int .i64 b, .int .i64 x] W fun e w' => e = .returned (.tuple #[.int .i64 v, .int .i64 0]) ∧ Below W.heap.size W w')) (hf1 : Hid (∀ W, Calls Try.prog 39 #[.int .i64 c, .int .i64 a, .int .i64 x] W fun e w' => e = .returned (.tuple #[.int .i64 p, .int .i64 0]) ∧ Below W.heap.size W w')) (hf2 : Hid (∀ W, Calls Try.prog 39 #[.int .i64 c, .int .i64 b, .int .i64 x] W fun e w' => e = .returned (.tuple #[.int .i64 q, .int .i64 0]) ∧ Below W.heap.size W w')) (t1 : decide (a ≤ b) = false) (t2 : decide (b ≤ a) = true) (t3 : decide (u < v) = false) (t5 : (u != v) = true) : Calls Try.prog 14 #[.int .i64 c, .int .i64 x, .agg #[.int .i64 a, .int .i64 b]] w (LawPost w) := by
  have hs := Lib.hid sane_any
  go_enter Try.func14, Try.ntmps14
  go_wp2_with fail
  refine (hk1.out _).mono ?_
  rintro e w2 ⟨rfl, hb2⟩
  obtain ⟨Hx, Hb, -⟩ := kept_box hb2
  have K2 := Lib.hid (show Pk w.heap.size a b w w2 from ⟨(kept_box hb2).2.2, Hb, Hx⟩)
  obtain ⟨c0, c1⟩ := K2.out.cells
  clear hb2 Hb Hx
  go_wp2_with fail
  refine (hk2.out _).mono ?_
  rintro e w3 ⟨rfl, hb3⟩
  have K3 := Lib.hid (K2.out.next hb3)
  clear c0 c1 hb3
  obtain ⟨c0, c1⟩ := K3.out.cells
  go_wp2_with fail
  refine (hs.out _).mono ?_
  rintro e w4 ⟨rfl, hb4⟩
  have K4 := Lib.hid (K3.out.next hb4)
  clear c0 c1 hb4
  obtain ⟨c0, c1⟩ := K4.out.cells
  go_wp2_with fail
  refine (hf1.out _).mono ?_
  rintro e w5 ⟨rfl, hb5⟩
  have K5 := Lib.hid (K4.out.next hb5)
  clear c0 c1 hb5
  obtain ⟨c0, c1⟩ := K5.out.cells
  go_wp2_with fail
  refine (hf2.out _).mono ?_
  rintro e w6 ⟨rfl, hb6⟩
  have K6 := Lib.hid (K5.out.next hb6)
  clear c0 c1 hb6
  go_wp2_with fail
  go_ret
  exact ⟨rfl, K6.out.below⟩

set_option maxRecDepth 100000 in
set_option maxHeartbeats 3200000 in
theorem keys_ge (c x a b u p : Int) (w : World) (hk1 : Hid (∀ W, Calls Try.prog 41 #[.int .i64 c, .int .i64 a, .int .i64 x] W fun e w' => e = .returned (.tuple #[.int .i64 u, .int .i64 0]) ∧ Below W.heap.size W w')) (hk2 : Hid (∀ W, Calls Try.prog 41 #[.int .i64 c, .int .i64 b, .int .i64 x] W fun e w' => e = .returned (.tuple #[.int .i64 u, .int .i64 0]) ∧ Below W.heap.size W w')) (hf1 : Hid (∀ W, Calls Try.prog 39 #[.int .i64 c, .int .i64 a, .int .i64 x] W fun e w' => e = .returned (.tuple #[.int .i64 p, .int .i64 0]) ∧ Below W.heap.size W w')) (hf2 : Hid (∀ W, Calls Try.prog 39 #[.int .i64 c, .int .i64 b, .int .i64 x] W fun e w' => e = .returned (.tuple #[.int .i64 p, .int .i64 0]) ∧ Below W.heap.size W w')) (t1 : decide (a ≤ b) = false) (t2 : decide (b ≤ a) = true) : Calls Try.prog 14 #[.int .i64 c, .int .i64 x, .agg #[.int .i64 a, .int .i64 b]] w (LawPost w) := by
  have hs := Lib.hid sane_any
  go_enter Try.func14, Try.ntmps14
  go_wp2_with fail
  refine (hk1.out _).mono ?_
  rintro e w2 ⟨rfl, hb2⟩
  obtain ⟨Hx, Hb, -⟩ := kept_box hb2
  have K2 := Lib.hid (show Pk w.heap.size a b w w2 from ⟨(kept_box hb2).2.2, Hb, Hx⟩)
  obtain ⟨c0, c1⟩ := K2.out.cells
  clear hb2 Hb Hx
  go_wp2_with fail
  refine (hk2.out _).mono ?_
  rintro e w3 ⟨rfl, hb3⟩
  have K3 := Lib.hid (K2.out.next hb3)
  clear c0 c1 hb3
  obtain ⟨c0, c1⟩ := K3.out.cells
  go_wp2_with fail
  refine (hs.out _).mono ?_
  rintro e w4 ⟨rfl, hb4⟩
  have K4 := Lib.hid (K3.out.next hb4)
  clear c0 c1 hb4
  obtain ⟨c0, c1⟩ := K4.out.cells
  go_wp2_with fail
  refine (hf1.out _).mono ?_
  rintro e w5 ⟨rfl, hb5⟩
  have K5 := Lib.hid (K4.out.next hb5)
  clear c0 c1 hb5
  obtain ⟨c0, c1⟩ := K5.out.cells
  go_wp2_with fail
  refine (hf2.out _).mono ?_
  rintro e w6 ⟨rfl, hb6⟩
  have K6 := Lib.hid (K5.out.next hb6)
  clear c0 c1 hb6
  go_wp2_with fail
  go_ret
  exact ⟨rfl, K6.out.below⟩

theorem key_mono {c y m d z k e n n' x : Int} (h : Ok c y m d) (g : Ok c z k e) (hn : num c y m d = n) (hn' : num c z k e = n') (hlt : n < n') : keyD y m n x ≤ keyD z k n' x := by
  have hl := later_of_lt h g (by omega)
  obtain ⟨_, _, h1, h2, _, _⟩ := h
  obtain ⟨_, _, g1, g2, _, _⟩ := g
  unfold Later at hl
  unfold keyD
  split
  · omega
  · split
    · omega
    · split
      · omega
      · omega
theorem key_field {c y m d z k e n n' x : Int} (h : Ok c y m d) (g : Ok c z k e) (hn : num c y m d = n) (hn' : num c z k e = n') (hk : keyD y m n x = keyD z k n' x) : fieldD c y m d x = fieldD c z k e x := by
  have h' := h
  have g' := g
  obtain ⟨_, _, h1, h2, _, _⟩ := h
  obtain ⟨_, _, g1, g2, _, _⟩ := g
  unfold keyD at hk
  unfold fieldD
  by_cases x1 : x = 1
  · simp only [x1, if_true] at hk ⊢; exact hk
  · by_cases x2 : x = 2
    · simp only [x2, if_true] at hk ⊢
      rw [if_neg (by omega), if_neg (by omega)] at hk
      rw [if_neg (by omega), if_neg (by omega)]
      omega
    · by_cases x3 : x = 3
      · simp only [x3, if_true] at hk ⊢
        rw [if_neg (by omega), if_neg (by omega), if_neg (by omega), if_neg (by omega)] at hk
        rw [if_neg (by omega), if_neg (by omega), if_neg (by omega), if_neg (by omega)]
        omega
      · rw [if_neg x1, if_neg x2, if_neg x3, if_neg x1, if_neg x2, if_neg x3] at hk
        obtain ⟨rfl, rfl, rfl⟩ := num_inj h' g' (by omega)
        rfl

theorem keys_any (c x a b : Int) (w : World) : Calls Try.prog 14 #[.int .i64 c, .int .i64 x, .agg #[.int .i64 a, .int .i64 b]] w (LawPost w) := by
  rcases key_cases c a x with ⟨-, -, -, y, m, d, hok, hnum, hk1, hf1⟩ | ⟨v, hv, hk1, -⟩
  · rcases key_cases c b x with ⟨-, -, -, z, k, e, hok2, hnum2, hk2, hf2⟩ | ⟨v, hv, hk2, -⟩
    · by_cases hab : a < b
      · have hm := key_mono (x := x) hok hok2 hnum hnum2 hab
        by_cases he : keyD y m a x = keyD z k b x
        · rw [← he] at hk2
          rw [← key_field hok hok2 hnum hnum2 he] at hf2
          exact keys_le c x a b _ _ w hk1 hk2 hf1 hf2 (by simp; omega) (by simp; omega)
        · exact keys_lt c x a b _ _ _ _ w hk1 hk2 hf1 hf2 (by simp; omega) (by simp; omega) (by simp; omega) (by simpa using he)
      · by_cases hba : b < a
        · have hm := key_mono (x := x) hok2 hok hnum2 hnum hba
          by_cases he : keyD y m a x = keyD z k b x
          · rw [← he] at hk2
            rw [← key_field hok hok2 hnum hnum2 he] at hf2
            exact keys_ge c x a b _ _ w hk1 hk2 hf1 hf2 (by simp; omega) (by simp; omega)
          · exact keys_gt c x a b _ _ _ _ w hk1 hk2 hf1 hf2 (by simp; omega) (by simp; omega) (by simp; omega) (by simpa using he)
        · obtain rfl : a = b := by omega
          exact keys_eq c x a _ _ w hk1 hk1 hf1 hf1
    · exact keys_err2 c x a b _ _ _ w hk1 hk2 hv
  · rcases key_cases c b x with ⟨-, -, -, z, k, e, -, -, hk2, -⟩ | ⟨v2, -, hk2, -⟩
    · exact keys_err1 c x a b _ _ _ _ w hk1 hk2 hv
    · exact keys_err1 c x a b _ _ _ _ w hk1 hk2 hv
end Go.Proofs.Ythpeaeepcbbfcaa
