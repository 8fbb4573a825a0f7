/- Length where there is one; DateOf; sane. -/
import Derived.Test.YthpeaeepcbbfcaaDoorM
namespace Go.Proofs.YthpeaeepcbbfcaaDoor
open Go.RowKit

/-- The rules in a box. -/
structure Bo (B : Nat) (m0 m1 m2 m3 m4 m5 m6 m7 m8 m9 m10 m11 : Int) (f : FuncId) (w0 W : World) : Prop where
  size : B + 1 ≤ W.heap.size
  below : Below w0.heap.size w0 W
  x : W.heap[B]? = some (.cells #[.int .i64 m0, .int .i64 m1, .int .i64 m2, .int .i64 m3, .int .i64 m4, .int .i64 m5, .int .i64 m6, .int .i64 m7, .int .i64 m8, .int .i64 m9, .int .i64 m10, .int .i64 m11, .func (.func f) #[] #[]] 34 (0, 0))
variable {B : Nat} {m0 m1 m2 m3 m4 m5 m6 m7 m8 m9 m10 m11 : Int} {f : FuncId} {w0 W W' : World}
theorem Bo.next (h : Bo B m0 m1 m2 m3 m4 m5 m6 m7 m8 m9 m10 m11 f w0 W) (hb : Below W.heap.size W W') : Bo B m0 m1 m2 m3 m4 m5 m6 m7 m8 m9 m10 m11 f w0 W' :=
  ⟨Nat.le_trans h.size hb.size, h.below.trans (hb.mono h.below.size), (hb.block _ h.size).trans h.x⟩
theorem Bo.drew (h : Bo B m0 m1 m2 m3 m4 m5 m6 m7 m8 m9 m10 m11 f w0 W) : Bo B m0 m1 m2 m3 m4 m5 m6 m7 m8 m9 m10 m11 f w0 W.drew := ⟨h.size, h.below.drew, h.x⟩
theorem Bo.all (h : Bo B m0 m1 m2 m3 m4 m5 m6 m7 m8 m9 m10 m11 f w0 W) : Bo B m0 m1 m2 m3 m4 m5 m6 m7 m8 m9 m10 m11 f w0 W ∧ W.cell? ⟨B, 0, none⟩ = some (.int .i64 m0) ∧ W.cell? ⟨B, 1, none⟩ = some (.int .i64 m1) ∧ W.cell? ⟨B, 2, none⟩ = some (.int .i64 m2) ∧ W.cell? ⟨B, 3, none⟩ = some (.int .i64 m3) ∧ W.cell? ⟨B, 4, none⟩ = some (.int .i64 m4) ∧ W.cell? ⟨B, 5, none⟩ = some (.int .i64 m5) ∧ W.cell? ⟨B, 6, none⟩ = some (.int .i64 m6) ∧ W.cell? ⟨B, 7, none⟩ = some (.int .i64 m7) ∧ W.cell? ⟨B, 8, none⟩ = some (.int .i64 m8) ∧ W.cell? ⟨B, 9, none⟩ = some (.int .i64 m9) ∧ W.cell? ⟨B, 10, none⟩ = some (.int .i64 m10) ∧ W.cell? ⟨B, 11, none⟩ = some (.int .i64 m11) ∧ W.cell? ⟨B, 12, none⟩ = some (.func (.func f) #[] #[]) := ⟨h, cell_of_heap h.x 0, cell_of_heap h.x 1, cell_of_heap h.x 2, cell_of_heap h.x 3, cell_of_heap h.x 4, cell_of_heap h.x 5, cell_of_heap h.x 6, cell_of_heap h.x 7, cell_of_heap h.x 8, cell_of_heap h.x 9, cell_of_heap h.x 10, cell_of_heap h.x 11, cell_of_heap h.x 12⟩
theorem Bo.start {w w2 : World} (h : Below w.heap.size w w2) : Bo w2.heap.size m0 m1 m2 m3 m4 m5 m6 m7 m8 m9 m10 m11 f w (w2.alloc (.cells #[.int .i64 m0, .int .i64 m1, .int .i64 m2, .int .i64 m3, .int .i64 m4, .int .i64 m5, .int .i64 m6, .int .i64 m7, .int .i64 m8, .int .i64 m9, .int .i64 m10, .int .i64 m11, .func (.func f) #[] #[]] 34)) := ⟨by simp, kept_more h, heap_new _ _⟩
theorem ret2i {a a' b : Int} (h : a = a') : Ending.returned (.tuple #[.int .i64 a, .int .i64 b]) = .returned (.tuple #[.int .i64 a', .int .i64 b]) := by rw [h]
theorem len_eq (c y : Int) : start c (y + 1) - start c y = len c y := by rw [start_succ]; omega

end Go.Proofs.YthpeaeepcbbfcaaDoor
