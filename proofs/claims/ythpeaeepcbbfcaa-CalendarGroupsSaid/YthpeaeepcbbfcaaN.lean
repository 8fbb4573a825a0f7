/- Length where there is one; DateOf; sane. -/
import Derived.Test.YthpeaeepcbbfcaaM
namespace Go.Proofs.Ythpeaeepcbbfcaa
open Go.RowKit

/-- The rules in a box. -/
structure Bo (B : Nat) (m0 m1 m2 m3 m4 m5 m6 m7 m8 m9 m10 m11 : Int) (f : FuncId) (w0 W : World) : Prop where
  size : B + 1 ≤ W.heap.size
  below : Below w0.heap.size w0 W
  x : W.heap[B]? = some (.cells #[.int .i64 m0, .int .i64 m1, .int .i64 m2, .int .i64 m3, .int .i64 m4, .int .i64 m5, .int .i64 m6, .int .i64 m7, .int .i64 m8, .int .i64 m9, .int .i64 m10, .int .i64 m11, .func (.func f) #[] #[]] 68 (0, 0))
variable {B : Nat} {m0 m1 m2 m3 m4 m5 m6 m7 m8 m9 m10 m11 : Int} {f : FuncId} {w0 W W' : World}
theorem Bo.next (h : Bo B m0 m1 m2 m3 m4 m5 m6 m7 m8 m9 m10 m11 f w0 W) (hb : Below W.heap.size W W') : Bo B m0 m1 m2 m3 m4 m5 m6 m7 m8 m9 m10 m11 f w0 W' :=
  ⟨Nat.le_trans h.size hb.size, h.below.trans (hb.mono h.below.size), (hb.block _ h.size).trans h.x⟩
theorem Bo.drew (h : Bo B m0 m1 m2 m3 m4 m5 m6 m7 m8 m9 m10 m11 f w0 W) : Bo B m0 m1 m2 m3 m4 m5 m6 m7 m8 m9 m10 m11 f w0 W.drew := ⟨h.size, h.below.drew, h.x⟩
theorem Bo.all (h : Bo B m0 m1 m2 m3 m4 m5 m6 m7 m8 m9 m10 m11 f w0 W) : Bo B m0 m1 m2 m3 m4 m5 m6 m7 m8 m9 m10 m11 f w0 W ∧ W.cell? ⟨B, 0, none⟩ = some (.int .i64 m0) ∧ W.cell? ⟨B, 1, none⟩ = some (.int .i64 m1) ∧ W.cell? ⟨B, 2, none⟩ = some (.int .i64 m2) ∧ W.cell? ⟨B, 3, none⟩ = some (.int .i64 m3) ∧ W.cell? ⟨B, 4, none⟩ = some (.int .i64 m4) ∧ W.cell? ⟨B, 5, none⟩ = some (.int .i64 m5) ∧ W.cell? ⟨B, 6, none⟩ = some (.int .i64 m6) ∧ W.cell? ⟨B, 7, none⟩ = some (.int .i64 m7) ∧ W.cell? ⟨B, 8, none⟩ = some (.int .i64 m8) ∧ W.cell? ⟨B, 9, none⟩ = some (.int .i64 m9) ∧ W.cell? ⟨B, 10, none⟩ = some (.int .i64 m10) ∧ W.cell? ⟨B, 11, none⟩ = some (.int .i64 m11) ∧ W.cell? ⟨B, 12, none⟩ = some (.func (.func f) #[] #[]) := ⟨h, cell_of_heap h.x 0, cell_of_heap h.x 1, cell_of_heap h.x 2, cell_of_heap h.x 3, cell_of_heap h.x 4, cell_of_heap h.x 5, cell_of_heap h.x 6, cell_of_heap h.x 7, cell_of_heap h.x 8, cell_of_heap h.x 9, cell_of_heap h.x 10, cell_of_heap h.x 11, cell_of_heap h.x 12⟩
theorem Bo.start {w w2 : World} (h : Below w.heap.size w w2) : Bo w2.heap.size m0 m1 m2 m3 m4 m5 m6 m7 m8 m9 m10 m11 f w (w2.alloc (.cells #[.int .i64 m0, .int .i64 m1, .int .i64 m2, .int .i64 m3, .int .i64 m4, .int .i64 m5, .int .i64 m6, .int .i64 m7, .int .i64 m8, .int .i64 m9, .int .i64 m10, .int .i64 m11, .func (.func f) #[] #[]] 68)) := ⟨by simp, kept_more h, heap_new _ _⟩
theorem ret2i {a a' b : Int} (h : a = a') : Ending.returned (.tuple #[.int .i64 a, .int .i64 b]) = .returned (.tuple #[.int .i64 a', .int .i64 b]) := by rw [h]
theorem len_eq (c y : Int) : start c (y + 1) - start c y = len c y := by rw [start_succ]; omega

set_option maxRecDepth 100000 in
set_option maxHeartbeats 1600000 in
theorem length_yes (c : Int) (y : Int) (w : World) (h : isCal c) (h0 : -9999 ≤ y) (h1 : y ≤ 9999) : Calls Try.prog 24 #[.int .i64 c, .int .i64 y] w fun e w' => e = .returned (.tuple #[.int .i64 (len c y), .int .i64 0]) ∧ Below w.heap.size w w' := by
  have hro := Lib.hid (fun W => rulesOf_ok c W h)
  have hy := Lib.hid (fun W => isYear_yes y W h0 h1)
  clear h
  go_enter Try.func24, Try.ntmps24
  go_wp2_with fail
  refine (hro.out _).mono ?_
  rintro e w2 ⟨r, rfl, hr, hb2⟩
  obtain ⟨m0, m1, m2, m3, m4, m5, m6, m7, m8, m9, m10, m11, f, rfl⟩ := hr.form
  have HB := Lib.hid hb2
  clear hb2
  have hl := Lib.hid hr.start
  have hB := Lib.hid (Bo.start (m0 := m0) (m1 := m1) (m2 := m2) (m3 := m3) (m4 := m4) (m5 := m5) (m6 := m6) (m7 := m7) (m8 := m8) (m9 := m9) (m10 := m10) (m11 := m11) (f := f) HB.out)
  have s1 : IntKind.i64.wrap (y + 1) = y + 1 := IntWalk.i64_in _ (by omega)
  obtain ⟨sa, sb⟩ := start_bd c y (by omega) (by omega)
  obtain ⟨sc, sd⟩ := start_bd c (y + 1) (by omega) (by omega)
  have s2 : IntKind.i64.wrap (start c (y + 1) - start c y) = start c (y + 1) - start c y := IntWalk.i64_in _ (by omega)
  have hle := Lib.hid (len_eq c y)
  clear hr
  go_wp2_with fail
  refine (hy.out _).mono ?_
  rintro e w3 ⟨rfl, rfl⟩
  go_wp2_with fail
  go_region_held3 (fun w' => Bo w2.heap.size m0 m1 m2 m3 m4 m5 m6 m7 m8 m9 m10 m11 f w w' ∧ w'.cell? ⟨w2.heap.size, 0, none⟩ = some (.int .i64 m0) ∧ w'.cell? ⟨w2.heap.size, 1, none⟩ = some (.int .i64 m1) ∧ w'.cell? ⟨w2.heap.size, 2, none⟩ = some (.int .i64 m2) ∧ w'.cell? ⟨w2.heap.size, 3, none⟩ = some (.int .i64 m3) ∧ w'.cell? ⟨w2.heap.size, 4, none⟩ = some (.int .i64 m4) ∧ w'.cell? ⟨w2.heap.size, 5, none⟩ = some (.int .i64 m5) ∧ w'.cell? ⟨w2.heap.size, 6, none⟩ = some (.int .i64 m6) ∧ w'.cell? ⟨w2.heap.size, 7, none⟩ = some (.int .i64 m7) ∧ w'.cell? ⟨w2.heap.size, 8, none⟩ = some (.int .i64 m8) ∧ w'.cell? ⟨w2.heap.size, 9, none⟩ = some (.int .i64 m9) ∧ w'.cell? ⟨w2.heap.size, 10, none⟩ = some (.int .i64 m10) ∧ w'.cell? ⟨w2.heap.size, 11, none⟩ = some (.int .i64 m11) ∧ w'.cell? ⟨w2.heap.size, 12, none⟩ = some (.func (.func f) #[] #[]))
    (first | exact Bo.all (Bo.drew hB.out) | exact Bo.all hB.out | (go_split_ands; exact Bo.all (Bo.next (by assumption) hb1)) | go_keep)
    (first | (go_at_call 55; go_split_ands; refine (hl.out _ _ (by omega) (by omega)).mono ?_; rintro e w4 ⟨rfl, hb1⟩; have hB1 := Lib.hid (Bo.next (by assumption) hb1)))
  clear s1 s2
  go_wp2_with fail
  go_ret2
  exact ⟨ret2i hle.out, hB1.out.below⟩
end Go.Proofs.Ythpeaeepcbbfcaa
