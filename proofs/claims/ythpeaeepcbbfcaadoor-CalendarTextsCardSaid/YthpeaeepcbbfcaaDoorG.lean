/- Two boxes that are kept: the rules and a date; number. -/
import Derived.Test.YthpeaeepcbbfcaaDoorE
import Derived.Deep.RegionHeld3
namespace Go.Proofs.YthpeaeepcbbfcaaDoor
open Go.RowKit

theorem heap_new (W : World) (o : Obj) : (W.alloc o).heap[W.heap.size]? = some o := by show (W.heap.push _)[_]? = _; simp
theorem heap_old (W : World) (o : Obj) (b : Nat) (h : b < W.heap.size) : (W.alloc o).heap[b]? = W.heap[b]? := Below.heap_alloc _ _ _ h
theorem cell_of_heap {W : World} {b : Nat} {c : Array Value} {T : TypeId} (h : W.heap[b]? = some (.cells c T (0, 0))) (i : Nat) : W.cell? ⟨b, i, none⟩ = c[i]? := by
  unfold World.cell?; rw [h]; rfl
theorem free_of_heap {W : World} {b : Nat} {c : Array Value} {T : TypeId} (h : W.heap[b]? = some (.cells c T (0, 0))) (i : Nat) : W.frozen? ⟨b, i, none⟩ = false := by
  unfold World.frozen?; rw [h]; simp

/-- Two boxes, one behind the other: the rules and a date. -/
structure Boxes (B : Nat) (m0 m1 m2 m3 m4 m5 m6 m7 m8 m9 m10 m11 : Int) (f : FuncId) (y m d : Int) (w0 W : World) : Prop where
  size : B + 2 ≤ W.heap.size
  below : Below w0.heap.size w0 W
  x : W.heap[B]? = some (.cells #[.int .i64 m0, .int .i64 m1, .int .i64 m2, .int .i64 m3, .int .i64 m4, .int .i64 m5, .int .i64 m6, .int .i64 m7, .int .i64 m8, .int .i64 m9, .int .i64 m10, .int .i64 m11, .func (.func f) #[] #[]] 34 (0, 0))
  y : W.heap[B + 1]? = some (.cells #[.int .i64 y, .int .i64 m, .int .i64 d] 23 (0, 0))

variable {B : Nat} {m0 m1 m2 m3 m4 m5 m6 m7 m8 m9 m10 m11 : Int} {f : FuncId} {y m d : Int} {w0 W W' : World}
theorem Boxes.next (h : Boxes B m0 m1 m2 m3 m4 m5 m6 m7 m8 m9 m10 m11 f y m d w0 W) (hb : Below W.heap.size W W') : Boxes B m0 m1 m2 m3 m4 m5 m6 m7 m8 m9 m10 m11 f y m d w0 W' := by
  have hs := h.size
  exact ⟨Nat.le_trans hs hb.size, h.below.trans (hb.mono h.below.size), (hb.block _ (by omega)).trans h.x, (hb.block _ (by omega)).trans h.y⟩
theorem Boxes.drew (h : Boxes B m0 m1 m2 m3 m4 m5 m6 m7 m8 m9 m10 m11 f y m d w0 W) : Boxes B m0 m1 m2 m3 m4 m5 m6 m7 m8 m9 m10 m11 f y m d w0 W.drew := ⟨h.size, h.below.drew, h.x, h.y⟩
theorem Boxes.all (h : Boxes B m0 m1 m2 m3 m4 m5 m6 m7 m8 m9 m10 m11 f y m d w0 W) : Boxes B m0 m1 m2 m3 m4 m5 m6 m7 m8 m9 m10 m11 f y m d w0 W ∧ W.cell? ⟨B, 0, none⟩ = some (.int .i64 m0) ∧ W.cell? ⟨B, 1, none⟩ = some (.int .i64 m1) ∧ W.cell? ⟨B, 2, none⟩ = some (.int .i64 m2) ∧ W.cell? ⟨B, 3, none⟩ = some (.int .i64 m3) ∧ W.cell? ⟨B, 4, none⟩ = some (.int .i64 m4) ∧ W.cell? ⟨B, 5, none⟩ = some (.int .i64 m5) ∧ W.cell? ⟨B, 6, none⟩ = some (.int .i64 m6) ∧ W.cell? ⟨B, 7, none⟩ = some (.int .i64 m7) ∧ W.cell? ⟨B, 8, none⟩ = some (.int .i64 m8) ∧ W.cell? ⟨B, 9, none⟩ = some (.int .i64 m9) ∧ W.cell? ⟨B, 10, none⟩ = some (.int .i64 m10) ∧ W.cell? ⟨B, 11, none⟩ = some (.int .i64 m11) ∧ W.cell? ⟨B, 12, none⟩ = some (.func (.func f) #[] #[]) ∧ W.cell? ⟨B + 1, 0, none⟩ = some (.int .i64 y) ∧ W.cell? ⟨B + 1, 1, none⟩ = some (.int .i64 m) ∧ W.cell? ⟨B + 1, 2, none⟩ = some (.int .i64 d) :=
  ⟨h, cell_of_heap h.x 0, cell_of_heap h.x 1, cell_of_heap h.x 2, cell_of_heap h.x 3, cell_of_heap h.x 4, cell_of_heap h.x 5, cell_of_heap h.x 6, cell_of_heap h.x 7, cell_of_heap h.x 8, cell_of_heap h.x 9, cell_of_heap h.x 10, cell_of_heap h.x 11, cell_of_heap h.x 12, cell_of_heap h.y 0, cell_of_heap h.y 1, cell_of_heap h.y 2⟩
theorem Boxes.start (w : World) : Boxes w.heap.size m0 m1 m2 m3 m4 m5 m6 m7 m8 m9 m10 m11 f y m d w ((w.alloc (.cells #[.int .i64 m0, .int .i64 m1, .int .i64 m2, .int .i64 m3, .int .i64 m4, .int .i64 m5, .int .i64 m6, .int .i64 m7, .int .i64 m8, .int .i64 m9, .int .i64 m10, .int .i64 m11, .func (.func f) #[] #[]] 34)).alloc (.cells #[.int .i64 y, .int .i64 m, .int .i64 d] 23)) := by
  refine ⟨by simp, (below_alloc _ _).trans ((below_alloc _ _).mono (by simp)), ?_, ?_⟩
  · rw [heap_old _ _ _ (by simp), heap_new]
  · rw [show w.heap.size + 1 = (w.alloc (.cells #[.int .i64 m0, .int .i64 m1, .int .i64 m2, .int .i64 m3, .int .i64 m4, .int .i64 m5, .int .i64 m6, .int .i64 m7, .int .i64 m8, .int .i64 m9, .int .i64 m10, .int .i64 m11, .func (.func f) #[] #[]] 34)).heap.size from by simp, heap_new]

set_option maxRecDepth 100000 in
set_option maxHeartbeats 1600000 in
theorem number_any (r : Value) (c y m d : Int) (w : World) (hr : IsRules c r) (hok : Ok c y m d) :
    Calls Tryd.prog 33 #[r, .agg #[.int .i64 y, .int .i64 m, .int .i64 d]] w fun e w' => e = .returned (.int .i64 (num c y m d)) ∧ Below w.heap.size w w' := by
  obtain ⟨m0, m1, m2, m3, m4, m5, m6, m7, m8, m9, m10, m11, f, rfl⟩ := hr.form
  have hst := Lib.hid hr.start
  have hda := Lib.hid hr.days
  obtain ⟨y0, y1, k0, k1, d0, d1⟩ := hok
  have hb := start_bd c y (by omega) (by omega)
  have hd31 := dm_bd c y m
  obtain ⟨b0, b1⟩ := hb
  have d2 : d ≤ 31 := by omega
  clear d1 hd31 hr
  have hB := Lib.hid (Boxes.start (m0 := m0) (m1 := m1) (m2 := m2) (m3 := m3) (m4 := m4) (m5 := m5) (m6 := m6) (m7 := m7) (m8 := m8) (m9 := m9) (m10 := m10) (m11 := m11) (f := f) (y := y) (m := m) (d := d) w)
  have s1 : IntKind.i64.wrap (start c y + d) = start c y + d := IntWalk.i64_in _ (by omega)
  have s2 : IntKind.i64.wrap (start c y + d - 1) = start c y + d - 1 := IntWalk.i64_in _ (by omega)
  go_enter Tryd.func33, Tryd.ntmps33
  go_wp2_with fail
  go_region_held3 (fun w' => Boxes w.heap.size m0 m1 m2 m3 m4 m5 m6 m7 m8 m9 m10 m11 f y m d w w' ∧ w'.cell? ⟨w.heap.size, 0, none⟩ = some (.int .i64 m0) ∧ w'.cell? ⟨w.heap.size, 1, none⟩ = some (.int .i64 m1) ∧ w'.cell? ⟨w.heap.size, 2, none⟩ = some (.int .i64 m2) ∧ w'.cell? ⟨w.heap.size, 3, none⟩ = some (.int .i64 m3) ∧ w'.cell? ⟨w.heap.size, 4, none⟩ = some (.int .i64 m4) ∧ w'.cell? ⟨w.heap.size, 5, none⟩ = some (.int .i64 m5) ∧ w'.cell? ⟨w.heap.size, 6, none⟩ = some (.int .i64 m6) ∧ w'.cell? ⟨w.heap.size, 7, none⟩ = some (.int .i64 m7) ∧ w'.cell? ⟨w.heap.size, 8, none⟩ = some (.int .i64 m8) ∧ w'.cell? ⟨w.heap.size, 9, none⟩ = some (.int .i64 m9) ∧ w'.cell? ⟨w.heap.size, 10, none⟩ = some (.int .i64 m10) ∧ w'.cell? ⟨w.heap.size, 11, none⟩ = some (.int .i64 m11) ∧ w'.cell? ⟨w.heap.size, 12, none⟩ = some (.func (.func f) #[] #[]) ∧ w'.cell? ⟨w.heap.size + 1, 0, none⟩ = some (.int .i64 y) ∧ w'.cell? ⟨w.heap.size + 1, 1, none⟩ = some (.int .i64 m) ∧ w'.cell? ⟨w.heap.size + 1, 2, none⟩ = some (.int .i64 d))
    (first | exact Boxes.all (Boxes.drew hB.out) | exact Boxes.all hB.out | (go_split_ands; exact Boxes.all (Boxes.next (by assumption) hb1)) | go_keep)
    (first | (go_at_call 46; go_split_ands; refine (hst.out y _ (by omega) (by omega)).mono ?_; rintro e w1 ⟨rfl, hb1⟩; have hB1 := Boxes.next (by assumption) hb1))
  go_wp2_with fail
  clear s1 s2
  have hB2 := Lib.hid hB1
  clear hB1 hb1
  go_loopw [5, 6] (fun n k wr => ∃ j : Int, 1 ≤ j ∧ j ≤ m ∧ k = .int .i64 j ∧ n = .int .i64 (start c y + d - 1 + cum c y j) ∧ Hid (Boxes w.heap.size m0 m1 m2 m3 m4 m5 m6 m7 m8 m9 m10 m11 f y m d w wr)) (fun _ k _ => (m - intOf k).toNat)
  case atStart => exact ⟨1, by omega, k0, rfl, by rw [cum_one]; simp, hB2⟩
  case round =>
    obtain ⟨j, j0, j1, rfl, rfl, hBj⟩ := hrel
    obtain ⟨q0, q1⟩ := cum_bd c y j (by omega) (by omega)
    obtain ⟨q2, q3⟩ := dm_bd c y j
    have hcs := Lib.hid (cum_succ c y j j0 (by omega))
    obtain ⟨-, a0, a1, a2, a3, a4, a5, a6, a7, a8, a9, a10, a11, a12, b0', b1', b2'⟩ := hBj.out.all
    by_cases hlt : j < m
    · go_wp2_with fail
      refine (hda.out y j _ (by omega) (by omega) (by omega) (by omega)).mono ?_
      rintro e w3 ⟨rfl, hb3⟩
      have hB3 := Lib.hid (hBj.out.next hb3)
      clear hb3
      go_wp2_with fail
      go_roundw
      case rel => exact ⟨j + 1, by omega, by omega, rfl, by rw [hcs.out]; go_num, hB3⟩
      case measure => simp [intOf]; omega
    · obtain rfl : j = m := by omega
      have hn := Lib.hid (show start c y + d - 1 + cum c y j = num c y j d by unfold num; omega)
      go_wp2_with fail
      go_ret
      exact ⟨ret_int hn.out, hBj.out.below⟩
end Go.Proofs.YthpeaeepcbbfcaaDoor
