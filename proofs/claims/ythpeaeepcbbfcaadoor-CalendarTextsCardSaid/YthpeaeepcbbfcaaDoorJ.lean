/- The date of a day number out of range. -/
import Derived.Test.YthpeaeepcbbfcaaDoorI
import Derived.Test.YthpeaeepcbbfcaaDoorF
namespace Go.Proofs.YthpeaeepcbbfcaaDoor
open Go.RowKit

/-- The rules, the day number and the result, in three boxes. -/
structure Bx (B : Nat) (m0 m1 m2 m3 m4 m5 m6 m7 m8 m9 m10 m11 : Int) (f : FuncId) (n : Int) (w0 W : World) : Prop where
  size : B + 3 ≤ W.heap.size
  below : Below w0.heap.size w0 W
  x : W.heap[B]? = some (.cells #[.int .i64 m0, .int .i64 m1, .int .i64 m2, .int .i64 m3, .int .i64 m4, .int .i64 m5, .int .i64 m6, .int .i64 m7, .int .i64 m8, .int .i64 m9, .int .i64 m10, .int .i64 m11, .func (.func f) #[] #[]] 34 (0, 0))
  y : W.heap[B + 1]? = some (.cells #[.int .i64 n] 3 (0, 0))
  r : W.heap[B + 2]? = some (.cells #[.int .i64 0, .int .i64 0, .int .i64 0] 23 (0, 0))
variable {B G : Nat} {m0 m1 m2 m3 m4 m5 m6 m7 m8 m9 m10 m11 : Int} {f : FuncId} {n : Int} {w0 W W' : World}
theorem Bx.next (h : Bx B m0 m1 m2 m3 m4 m5 m6 m7 m8 m9 m10 m11 f n w0 W) (hb : Below W.heap.size W W') : Bx B m0 m1 m2 m3 m4 m5 m6 m7 m8 m9 m10 m11 f n w0 W' := by
  have hs := h.size
  exact ⟨Nat.le_trans hs hb.size, h.below.trans (hb.mono h.below.size), (hb.block _ (by omega)).trans h.x, (hb.block _ (by omega)).trans h.y, (hb.block _ (by omega)).trans h.r⟩
theorem Bx.drew (h : Bx B m0 m1 m2 m3 m4 m5 m6 m7 m8 m9 m10 m11 f n w0 W) : Bx B m0 m1 m2 m3 m4 m5 m6 m7 m8 m9 m10 m11 f n w0 W.drew := ⟨h.size, h.below.drew, h.x, h.y, h.r⟩
theorem Bx.all (h : Bx B m0 m1 m2 m3 m4 m5 m6 m7 m8 m9 m10 m11 f n w0 W) : Bx B m0 m1 m2 m3 m4 m5 m6 m7 m8 m9 m10 m11 f n w0 W ∧ W.cell? ⟨B, 0, none⟩ = some (.int .i64 m0) ∧ W.cell? ⟨B, 1, none⟩ = some (.int .i64 m1) ∧ W.cell? ⟨B, 2, none⟩ = some (.int .i64 m2) ∧ W.cell? ⟨B, 3, none⟩ = some (.int .i64 m3) ∧ W.cell? ⟨B, 4, none⟩ = some (.int .i64 m4) ∧ W.cell? ⟨B, 5, none⟩ = some (.int .i64 m5) ∧ W.cell? ⟨B, 6, none⟩ = some (.int .i64 m6) ∧ W.cell? ⟨B, 7, none⟩ = some (.int .i64 m7) ∧ W.cell? ⟨B, 8, none⟩ = some (.int .i64 m8) ∧ W.cell? ⟨B, 9, none⟩ = some (.int .i64 m9) ∧ W.cell? ⟨B, 10, none⟩ = some (.int .i64 m10) ∧ W.cell? ⟨B, 11, none⟩ = some (.int .i64 m11) ∧ W.cell? ⟨B, 12, none⟩ = some (.func (.func f) #[] #[]) ∧ W.cell? ⟨B + 1, 0, none⟩ = some (.int .i64 n) :=
  ⟨h, cell_of_heap h.x 0, cell_of_heap h.x 1, cell_of_heap h.x 2, cell_of_heap h.x 3, cell_of_heap h.x 4, cell_of_heap h.x 5, cell_of_heap h.x 6, cell_of_heap h.x 7, cell_of_heap h.x 8, cell_of_heap h.x 9, cell_of_heap h.x 10, cell_of_heap h.x 11, cell_of_heap h.x 12, cell_of_heap h.y 0⟩
theorem Bx.res (h : Bx B m0 m1 m2 m3 m4 m5 m6 m7 m8 m9 m10 m11 f n w0 W) : (W.cell? ⟨B + 2, 0, none⟩ = some (.int .i64 0) ∧ W.cell? ⟨B + 2, 1, none⟩ = some (.int .i64 0) ∧ W.cell? ⟨B + 2, 2, none⟩ = some (.int .i64 0)) ∧ W.frozen? ⟨B + 2, 0, none⟩ = false ∧ W.frozen? ⟨B + 2, 1, none⟩ = false ∧ W.frozen? ⟨B + 2, 2, none⟩ = false :=
  ⟨⟨cell_of_heap h.r 0, cell_of_heap h.r 1, cell_of_heap h.r 2⟩, free_of_heap h.r 0, free_of_heap h.r 1, free_of_heap h.r 2⟩
theorem Bx.start (w : World) : Bx w.heap.size m0 m1 m2 m3 m4 m5 m6 m7 m8 m9 m10 m11 f n w (((w.alloc (.cells #[.int .i64 m0, .int .i64 m1, .int .i64 m2, .int .i64 m3, .int .i64 m4, .int .i64 m5, .int .i64 m6, .int .i64 m7, .int .i64 m8, .int .i64 m9, .int .i64 m10, .int .i64 m11, .func (.func f) #[] #[]] 34)).alloc (.cells #[.int .i64 n] 3)).alloc (.cells #[.int .i64 0, .int .i64 0, .int .i64 0] 23)) := by
  refine ⟨by simp, ((below_alloc _ _).trans ((below_alloc _ _).mono (by simp))).trans ((below_alloc _ _).mono (by simp; omega)), ?_, ?_, ?_⟩
  · rw [heap_old _ _ _ (by simp; omega), heap_old _ _ _ (by simp), heap_new]
  · rw [heap_old _ _ _ (by simp), show w.heap.size + 1 = (w.alloc (.cells #[.int .i64 m0, .int .i64 m1, .int .i64 m2, .int .i64 m3, .int .i64 m4, .int .i64 m5, .int .i64 m6, .int .i64 m7, .int .i64 m8, .int .i64 m9, .int .i64 m10, .int .i64 m11, .func (.func f) #[] #[]] 34)).heap.size from by simp, heap_new]
  · rw [show w.heap.size + 2 = ((w.alloc (.cells #[.int .i64 m0, .int .i64 m1, .int .i64 m2, .int .i64 m3, .int .i64 m4, .int .i64 m5, .int .i64 m6, .int .i64 m7, .int .i64 m8, .int .i64 m9, .int .i64 m10, .int .i64 m11, .func (.func f) #[] #[]] 34)).alloc (.cells #[.int .i64 n] 3)).heap.size from by simp, heap_new]

theorem ofs2 (B : Nat) : B + 1 + 1 = B + 2 := rfl

set_option maxRecDepth 100000 in
set_option maxHeartbeats 1600000 in
theorem date_low (r : Value) (c n : Int) (w : World) (hr : IsRules c r) (h : n < start c (-9999)) :
    Calls Tryd.prog 34 #[r, .int .i64 n] w fun e w' => e = .returned (.tuple #[.agg #[.int .i64 0, .int .i64 0, .int .i64 0], .int .i64 21]) ∧ Below w.heap.size w w' := by
  obtain ⟨m0, m1, m2, m3, m4, m5, m6, m7, m8, m9, m10, m11, f, rfl⟩ := hr.form
  have hst := Lib.hid hr.start
  have hB := Lib.hid (Bx.start (m0 := m0) (m1 := m1) (m2 := m2) (m3 := m3) (m4 := m4) (m5 := m5) (m6 := m6) (m7 := m7) (m8 := m8) (m9 := m9) (m10 := m10) (m11 := m11) (f := f) (n := n) w)
  have hdec : decide (n < start c (-9999)) = true := by simpa using h
  clear h hr
  go_enter Tryd.func34, Tryd.ntmps34
  go_wp2_with fail
  refine wp_region_held_drew (S := (fun w' => Bx w.heap.size m0 m1 m2 m3 m4 m5 m6 m7 m8 m9 m10 m11 f n w w' ∧ w'.cell? ⟨w.heap.size, 0, none⟩ = some (.int .i64 m0) ∧ w'.cell? ⟨w.heap.size, 1, none⟩ = some (.int .i64 m1) ∧ w'.cell? ⟨w.heap.size, 2, none⟩ = some (.int .i64 m2) ∧ w'.cell? ⟨w.heap.size, 3, none⟩ = some (.int .i64 m3) ∧ w'.cell? ⟨w.heap.size, 4, none⟩ = some (.int .i64 m4) ∧ w'.cell? ⟨w.heap.size, 5, none⟩ = some (.int .i64 m5) ∧ w'.cell? ⟨w.heap.size, 6, none⟩ = some (.int .i64 m6) ∧ w'.cell? ⟨w.heap.size, 7, none⟩ = some (.int .i64 m7) ∧ w'.cell? ⟨w.heap.size, 8, none⟩ = some (.int .i64 m8) ∧ w'.cell? ⟨w.heap.size, 9, none⟩ = some (.int .i64 m9) ∧ w'.cell? ⟨w.heap.size, 10, none⟩ = some (.int .i64 m10) ∧ w'.cell? ⟨w.heap.size, 11, none⟩ = some (.int .i64 m11) ∧ w'.cell? ⟨w.heap.size, 12, none⟩ = some (.func (.func f) #[] #[]) ∧ w'.cell? ⟨w.heap.size + 1, 0, none⟩ = some (.int .i64 n))) (by kernel_rfl) (Bx.all (Bx.drew hB.out)) (fun hHeld => ?_)
  refine wpAnyH_take (i := 0) (v := (.int .i64 n)) rfl (by kernel_rfl) (by kernel_rfl) (by kernel_rfl) (fun _ _ _ h => h) (Or.inl ⟨by rfl, by intro W hSw; clear hHeld; go_split_ands; go_simp⟩) (by assumption) ?_
  simp only [Act.put, List.setIfInBounds_toArray, List.set_cons_zero, List.set_cons_succ]
  refine wpAnyH_take (i := 1) (v := (.agg #[.int .i64 m0, .int .i64 m1, .int .i64 m2, .int .i64 m3, .int .i64 m4, .int .i64 m5, .int .i64 m6, .int .i64 m7, .int .i64 m8, .int .i64 m9, .int .i64 m10, .int .i64 m11, .func (.func f) #[] #[]])) rfl (by kernel_rfl) (by kernel_rfl) (by kernel_rfl) (fun _ _ _ h => h) (Or.inl ⟨by rfl, by intro W hSw; clear hHeld; go_split_ands; go_simp⟩) (by assumption) ?_
  simp only [Act.put, List.setIfInBounds_toArray, List.set_cons_zero, List.set_cons_succ]
  refine wpAnyH_ready (rs := [2]) (by kernel_rfl) (by simp) ?_
  refine AllReadyH.cons (i := 2) rfl (fun K hK => ?_) AllReadyH.nil
  go_simp
  refine (hst.out (-9999) _ (by omega) (by omega)).mono ?_
  rintro e w1 ⟨rfl, hb1⟩
  have hB1 := Bx.next hHeld.1 hb1
  go_simp
  refine hK.out _ _ (Bx.all hB1) (fun hHeld => ?_)
  clear hK K
  refine wpAnyH_take (i := 3) (v := (.bool true)) rfl (by kernel_rfl) (by kernel_rfl) (by kernel_rfl) (fun _ _ _ h => h) (Or.inl ⟨by rfl, by intro W hSw; clear hHeld; go_split_ands; go_simp⟩) (by assumption) ?_
  simp only [Act.put, List.setIfInBounds_toArray, List.set_cons_zero, List.set_cons_succ]
  refine wpAnyH_take (i := 4) (v := (.bool true)) rfl (by kernel_rfl) (by kernel_rfl) (by kernel_rfl) (fun _ _ _ h => h) (Or.inl ⟨by rfl, by intro W hSw; clear hHeld; go_split_ands; go_simp⟩) (by assumption) ?_
  simp only [Act.put, List.setIfInBounds_toArray, List.set_cons_zero, List.set_cons_succ]
  refine wpAnyH_take (i := 5) (v := undef) rfl (by kernel_rfl) (by kernel_rfl) (by kernel_rfl) (fun _ _ _ h => h) (Or.inr ⟨by rfl, rfl⟩) (by assumption) ?_
  simp only [Act.put, List.setIfInBounds_toArray, List.set_cons_zero, List.set_cons_succ]
  refine wpAnyH_take (i := 6) (v := undef) rfl (by kernel_rfl) (by kernel_rfl) (by kernel_rfl) (fun _ _ _ h => h) (Or.inr ⟨by rfl, rfl⟩) (by assumption) ?_
  simp only [Act.put, List.setIfInBounds_toArray, List.set_cons_zero, List.set_cons_succ]
  refine wpAnyH_take (i := 7) (v := undef) rfl (by kernel_rfl) (by kernel_rfl) (by kernel_rfl) (fun _ _ _ h => h) (Or.inr ⟨by rfl, rfl⟩) (by assumption) ?_
  simp only [Act.put, List.setIfInBounds_toArray, List.set_cons_zero, List.set_cons_succ]
  refine wpAnyH_take (i := 8) (v := undef) rfl (by kernel_rfl) (by kernel_rfl) (by kernel_rfl) (fun _ _ _ h => h) (Or.inr ⟨by rfl, rfl⟩) (by assumption) ?_
  simp only [Act.put, List.setIfInBounds_toArray, List.set_cons_zero, List.set_cons_succ]
  refine wpAnyH_take (i := 9) (v := (.bool true)) rfl (by kernel_rfl) (by kernel_rfl) (by kernel_rfl) (fun _ _ _ h => h) (Or.inl ⟨by rfl, by intro W hSw; clear hHeld; go_split_ands; go_simp⟩) (by assumption) ?_
  simp only [Act.put, List.setIfInBounds_toArray, List.set_cons_zero, List.set_cons_succ]
  refine wpAnyH_done (by kernel_rfl) ?_ _
  have hb2 := Lib.hid hB1.below
  obtain ⟨⟨k0, k1, k2⟩, f0, f1, f2⟩ := hB1.res
  clear hb1 hHeld hB
  go_wp2_with fail
  refine bodyPost_ret (v := .tuple #[.agg #[.int .i64 0, .int .i64 0, .int .i64 0], .int .i64 21]) (by simp [results, Tryd.results34, go_sem, k0, k1, k2]) rfl ⟨rfl, ?_⟩
  exact ((hb2.out.setCell (by show w.heap.size ≤ w.heap.size + 2; omega) _).setCell (by show w.heap.size ≤ w.heap.size + 2; omega) _).setCell (by show w.heap.size ≤ w.heap.size + 2; omega) _

set_option maxRecDepth 100000 in
set_option maxHeartbeats 1600000 in
theorem date_high (r : Value) (c n : Int) (w : World) (hr : IsRules c r) (h0 : start c (-9999) ≤ n) (h : start c 10000 ≤ n) :
    Calls Tryd.prog 34 #[r, .int .i64 n] w fun e w' => e = .returned (.tuple #[.agg #[.int .i64 0, .int .i64 0, .int .i64 0], .int .i64 21]) ∧ Below w.heap.size w w' := by
  obtain ⟨m0, m1, m2, m3, m4, m5, m6, m7, m8, m9, m10, m11, f, rfl⟩ := hr.form
  have hst := Lib.hid hr.start
  have hB := Lib.hid (Bx.start (m0 := m0) (m1 := m1) (m2 := m2) (m3 := m3) (m4 := m4) (m5 := m5) (m6 := m6) (m7 := m7) (m8 := m8) (m9 := m9) (m10 := m10) (m11 := m11) (f := f) (n := n) w)
  have hdec : decide (n < start c (-9999)) = false := by simpa using h0
  have hdec2 : decide (start c 10000 ≤ n) = true := by simpa using h
  clear h h0 hr
  go_enter Tryd.func34, Tryd.ntmps34
  go_wp2_with fail
  go_region_held3 (fun w' => Bx w.heap.size m0 m1 m2 m3 m4 m5 m6 m7 m8 m9 m10 m11 f n w w' ∧ w'.cell? ⟨w.heap.size, 0, none⟩ = some (.int .i64 m0) ∧ w'.cell? ⟨w.heap.size, 1, none⟩ = some (.int .i64 m1) ∧ w'.cell? ⟨w.heap.size, 2, none⟩ = some (.int .i64 m2) ∧ w'.cell? ⟨w.heap.size, 3, none⟩ = some (.int .i64 m3) ∧ w'.cell? ⟨w.heap.size, 4, none⟩ = some (.int .i64 m4) ∧ w'.cell? ⟨w.heap.size, 5, none⟩ = some (.int .i64 m5) ∧ w'.cell? ⟨w.heap.size, 6, none⟩ = some (.int .i64 m6) ∧ w'.cell? ⟨w.heap.size, 7, none⟩ = some (.int .i64 m7) ∧ w'.cell? ⟨w.heap.size, 8, none⟩ = some (.int .i64 m8) ∧ w'.cell? ⟨w.heap.size, 9, none⟩ = some (.int .i64 m9) ∧ w'.cell? ⟨w.heap.size, 10, none⟩ = some (.int .i64 m10) ∧ w'.cell? ⟨w.heap.size, 11, none⟩ = some (.int .i64 m11) ∧ w'.cell? ⟨w.heap.size, 12, none⟩ = some (.func (.func f) #[] #[]) ∧ w'.cell? ⟨w.heap.size + 1, 0, none⟩ = some (.int .i64 n))
    (first | exact Bx.all (Bx.drew hB.out) | exact Bx.all hB.out | (go_split_ands; exact Bx.all (Bx.next (by assumption) hb1)) | go_keep)
    (first | (go_at_call 46; go_split_ands; refine (hst.out _ _ (by omega) (by omega)).mono ?_; rintro e w1 ⟨rfl, hb1⟩; have hB1 := Bx.next (by assumption) hb1))
  have hb3 := Lib.hid hB1.below
  obtain ⟨⟨k0, k1, k2⟩, f0, f1, f2⟩ := hB1.res
  clear hB
  go_wp2_with fail
  refine bodyPost_ret (v := .tuple #[.agg #[.int .i64 0, .int .i64 0, .int .i64 0], .int .i64 21]) (by simp [results, Tryd.results34, go_sem, k0, k1, k2]) rfl ⟨rfl, ?_⟩
  exact ((hb3.out.setCell (by show w.heap.size ≤ w.heap.size + 2; omega) _).setCell (by show w.heap.size ≤ w.heap.size + 2; omega) _).setCell (by show w.heap.size ≤ w.heap.size + 2; omega) _
end Go.Proofs.YthpeaeepcbbfcaaDoor
