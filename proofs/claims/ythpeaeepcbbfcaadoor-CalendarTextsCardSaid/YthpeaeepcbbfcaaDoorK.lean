/- The date of a day number. -/
import Derived.Test.YthpeaeepcbbfcaaDoorJ
import Derived.Deep.Cut
namespace Go.Proofs.YthpeaeepcbbfcaaDoor
open Go.RowKit

variable {B G : Nat} {m0 m1 m2 m3 m4 m5 m6 m7 m8 m9 m10 m11 : Int} {f : FuncId} {n : Int} {w0 W W' : World}
theorem Bx.cap (h : Bx B m0 m1 m2 m3 m4 m5 m6 m7 m8 m9 m10 m11 f n w0 W) : Cap B (B + 1) m0 m1 m2 m3 m4 m5 m6 m7 m8 m9 m10 m11 f n W W :=
  ⟨by have := h.size; omega, by have := h.size; omega, Below.refl _ _, h.x, h.y⟩

/-- The year that the search finds. -/
theorem year_of {c n i : Int} (h0 : start c (-9999) ≤ n) (h1 : n < start c 10000) (i0 : 0 ≤ i) (iN : i ≤ 19999) (a : i = 0 ∨ late c n (i - 1) = false) (b : i = 19999 ∨ late c n i = true) :
    1 ≤ i ∧ start c (i - 1 - 9999) ≤ n ∧ n < start c (i - 1 - 9999 + 1) := by
  have hi : i ≠ 0 := by
    rintro rfl
    rcases b with b | b
    · omega
    · have : n < start c (0 - 9999) := by simpa [late] using b
      have e : (0 : Int) - 9999 = -9999 := by omega
      rw [e] at this; omega
  refine ⟨by omega, ?_, ?_⟩
  · rcases a with a | a
    · omega
    · simpa [late] using a
  · rw [show i - 1 - 9999 + 1 = i - 9999 by omega]
    rcases b with b | b
    · subst b; exact h1
    · simpa [late] using b

/-- The boxes, and the one of the date. -/
structure Dt (B D : Nat) (m0 m1 m2 m3 m4 m5 m6 m7 m8 m9 m10 m11 : Int) (f : FuncId) (n y k d : Int) (w0 W : World) : Prop where
  far : B + 3 ≤ D
  size : D + 1 ≤ W.heap.size
  below : Below w0.heap.size w0 W
  cx : W.heap[B]? = some (.cells #[.int .i64 m0, .int .i64 m1, .int .i64 m2, .int .i64 m3, .int .i64 m4, .int .i64 m5, .int .i64 m6, .int .i64 m7, .int .i64 m8, .int .i64 m9, .int .i64 m10, .int .i64 m11, .func (.func f) #[] #[]] 34 (0, 0))
  cy : W.heap[B + 1]? = some (.cells #[.int .i64 n] 3 (0, 0))
  cr : W.heap[B + 2]? = some (.cells #[.int .i64 0, .int .i64 0, .int .i64 0] 23 (0, 0))
  cz : W.heap[D]? = some (.cells #[.int .i64 y, .int .i64 k, .int .i64 d] 23 (0, 0))
variable {D : Nat} {y k d : Int}
theorem Dt.next (h : Dt B D m0 m1 m2 m3 m4 m5 m6 m7 m8 m9 m10 m11 f n y k d w0 W) (hb : Below W.heap.size W W') : Dt B D m0 m1 m2 m3 m4 m5 m6 m7 m8 m9 m10 m11 f n y k d w0 W' := by
  have hs := h.size
  have hf := h.far
  exact ⟨hf, Nat.le_trans hs hb.size, h.below.trans (hb.mono h.below.size), (hb.block _ (by omega)).trans h.cx, (hb.block _ (by omega)).trans h.cy, (hb.block _ (by omega)).trans h.cr, (hb.block _ (by omega)).trans h.cz⟩
theorem Dt.drew (h : Dt B D m0 m1 m2 m3 m4 m5 m6 m7 m8 m9 m10 m11 f n y k d w0 W) : Dt B D m0 m1 m2 m3 m4 m5 m6 m7 m8 m9 m10 m11 f n y k d w0 W.drew := ⟨h.far, h.size, h.below.drew, h.cx, h.cy, h.cr, h.cz⟩
theorem Dt.all (h : Dt B D m0 m1 m2 m3 m4 m5 m6 m7 m8 m9 m10 m11 f n y k d w0 W) : Dt B D m0 m1 m2 m3 m4 m5 m6 m7 m8 m9 m10 m11 f n y k d w0 W ∧ (W.cell? ⟨B, 0, none⟩ = some (.int .i64 m0) ∧ W.cell? ⟨B, 1, none⟩ = some (.int .i64 m1) ∧ W.cell? ⟨B, 2, none⟩ = some (.int .i64 m2) ∧ W.cell? ⟨B, 3, none⟩ = some (.int .i64 m3) ∧ W.cell? ⟨B, 4, none⟩ = some (.int .i64 m4) ∧ W.cell? ⟨B, 5, none⟩ = some (.int .i64 m5) ∧ W.cell? ⟨B, 6, none⟩ = some (.int .i64 m6) ∧ W.cell? ⟨B, 7, none⟩ = some (.int .i64 m7) ∧ W.cell? ⟨B, 8, none⟩ = some (.int .i64 m8) ∧ W.cell? ⟨B, 9, none⟩ = some (.int .i64 m9) ∧ W.cell? ⟨B, 10, none⟩ = some (.int .i64 m10) ∧ W.cell? ⟨B, 11, none⟩ = some (.int .i64 m11) ∧ W.cell? ⟨B, 12, none⟩ = some (.func (.func f) #[] #[])) ∧ W.cell? ⟨B + 1, 0, none⟩ = some (.int .i64 n) ∧ (W.cell? ⟨D, 0, none⟩ = some (.int .i64 y) ∧ W.cell? ⟨D, 1, none⟩ = some (.int .i64 k) ∧ W.cell? ⟨D, 2, none⟩ = some (.int .i64 d)) :=
  ⟨h, ⟨cell_of_heap h.cx 0, cell_of_heap h.cx 1, cell_of_heap h.cx 2, cell_of_heap h.cx 3, cell_of_heap h.cx 4, cell_of_heap h.cx 5, cell_of_heap h.cx 6, cell_of_heap h.cx 7, cell_of_heap h.cx 8, cell_of_heap h.cx 9, cell_of_heap h.cx 10, cell_of_heap h.cx 11, cell_of_heap h.cx 12⟩, cell_of_heap h.cy 0, cell_of_heap h.cz 0, cell_of_heap h.cz 1, cell_of_heap h.cz 2⟩
theorem Dt.free (h : Dt B D m0 m1 m2 m3 m4 m5 m6 m7 m8 m9 m10 m11 f n y k d w0 W) : W.frozen? ⟨D, 1, none⟩ = false ∧ W.frozen? ⟨D, 2, none⟩ = false := ⟨free_of_heap h.cz 1, free_of_heap h.cz 2⟩
theorem Dt.res (h : Dt B D m0 m1 m2 m3 m4 m5 m6 m7 m8 m9 m10 m11 f n y k d w0 W) : (W.cell? ⟨B + 2, 0, none⟩ = some (.int .i64 0) ∧ W.cell? ⟨B + 2, 1, none⟩ = some (.int .i64 0) ∧ W.cell? ⟨B + 2, 2, none⟩ = some (.int .i64 0)) ∧ W.frozen? ⟨B + 2, 0, none⟩ = false ∧ W.frozen? ⟨B + 2, 1, none⟩ = false ∧ W.frozen? ⟨B + 2, 2, none⟩ = false :=
  ⟨⟨cell_of_heap h.cr 0, cell_of_heap h.cr 1, cell_of_heap h.cr 2⟩, free_of_heap h.cr 0, free_of_heap h.cr 1, free_of_heap h.cr 2⟩
theorem Bx.date (h : Bx B m0 m1 m2 m3 m4 m5 m6 m7 m8 m9 m10 m11 f n w0 W) (y : Int) : Dt B W.heap.size m0 m1 m2 m3 m4 m5 m6 m7 m8 m9 m10 m11 f n y 1 0 w0 (W.alloc (.cells #[.int .i64 y, .int .i64 1, .int .i64 0] 23)) := by
  have hs := h.size
  exact ⟨hs, by simp, h.below.trans ((below_alloc _ _).mono h.below.size), (heap_old _ _ _ (by omega)).trans h.x, (heap_old _ _ _ (by omega)).trans h.y, (heap_old _ _ _ (by omega)).trans h.r, heap_new _ _⟩
theorem heap_set (g k : Nat) (c : Array Value) (T : TypeId) (v : Value) (h : W.heap[g]? = some (.cells c T (0, 0))) : (W.setCell ⟨g, k, none⟩ v).heap[g]? = some (.cells (c.setIfInBounds k v) T (0, 0)) := by
  have hlt := (Array.getElem?_eq_some_iff.1 h).1
  have hv := (Array.getElem?_eq_some_iff.1 h).2
  unfold World.setCell
  rw [Array.getElem?_eq_getElem (by simpa using hlt), Array.getElem_modify]
  simp [hv]
theorem Dt.month (h : Dt B D m0 m1 m2 m3 m4 m5 m6 m7 m8 m9 m10 m11 f n y k d w0 W) (hB : w0.heap.size ≤ B) (u : Int) : Dt B D m0 m1 m2 m3 m4 m5 m6 m7 m8 m9 m10 m11 f n y u d w0 (W.setCell ⟨D, 1, none⟩ (.int .i64 u)) := by
  have hs := h.size
  have hf := h.far
  exact ⟨hf, by rw [World.size_setCell]; exact hs, h.below.setCell (by show w0.heap.size ≤ D; omega) _, (Below.heap_setCell _ _ _ _ (by show B ≠ D; omega)).trans h.cx, (Below.heap_setCell _ _ _ _ (by show B + 1 ≠ D; omega)).trans h.cy, (Below.heap_setCell _ _ _ _ (by show B + 2 ≠ D; omega)).trans h.cr, heap_set _ _ _ _ _ h.cz⟩
theorem Dt.day (h : Dt B D m0 m1 m2 m3 m4 m5 m6 m7 m8 m9 m10 m11 f n y k d w0 W) (hB : w0.heap.size ≤ B) (u : Int) : Dt B D m0 m1 m2 m3 m4 m5 m6 m7 m8 m9 m10 m11 f n y k u w0 (W.setCell ⟨D, 2, none⟩ (.int .i64 u)) := by
  have hs := h.size
  have hf := h.far
  exact ⟨hf, by rw [World.size_setCell]; exact hs, h.below.setCell (by show w0.heap.size ≤ D; omega) _, (Below.heap_setCell _ _ _ _ (by show B ≠ D; omega)).trans h.cx, (Below.heap_setCell _ _ _ _ (by show B + 1 ≠ D; omega)).trans h.cy, (Below.heap_setCell _ _ _ _ (by show B + 2 ≠ D; omega)).trans h.cr, heap_set _ _ _ _ _ h.cz⟩

/-- The date of a day number in range. -/
def DatePost (c n : Int) (w : World) (e : Ending) (w' : World) : Prop :=
  Below w.heap.size w w' ∧ ∃ y m d : Int, e = .returned (.tuple #[.agg #[.int .i64 y, .int .i64 m, .int .i64 d], .int .i64 0]) ∧ Ok c y m d ∧ num c y m d = n

set_option maxRecDepth 100000 in
set_option maxHeartbeats 3200000 in
theorem date_ok (r : Value) (c n : Int) (w : World) (hr : IsRules c r) (h0 : start c (-9999) ≤ n) (h1 : n < start c 10000) :
    Calls Tryd.prog 34 #[r, .int .i64 n] w (DatePost c n w) := by
  obtain ⟨m0, m1, m2, m3, m4, m5, m6, m7, m8, m9, m10, m11, f, rfl⟩ := hr.form
  have hst := Lib.hid hr.start
  have hda := Lib.hid hr.days
  have hse := Lib.hid (fun W hC => search_any w.heap.size (w.heap.size + 1) m0 m1 m2 m3 m4 m5 m6 m7 m8 m9 m10 m11 f c n W hr hC)
  have hB := Lib.hid (Bx.start (m0 := m0) (m1 := m1) (m2 := m2) (m3 := m3) (m4 := m4) (m5 := m5) (m6 := m6) (m7 := m7) (m8 := m8) (m9 := m9) (m10 := m10) (m11 := m11) (f := f) (n := n) w)
  have hdec : decide (n < start c (-9999)) = false := by simpa using h0
  have hdec2 : decide (start c 10000 ≤ n) = false := by simpa using h1
  have n0 : -3660000 ≤ n := by have := start_bd c (-9999) (by omega) (by omega); omega
  have n1 : n ≤ 3660000 := by have := start_bd c 10000 (by omega) (by omega); omega
  have hyear := Lib.hid (fun (i : Int) i0 iN a b => year_of (c := c) (n := n) (i := i) h0 h1 i0 iN a b)
  clear hr h0 h1
  go_enter Tryd.func34, Tryd.ntmps34
  go_wp2_with fail
  go_region_held3 (fun w' => Bx w.heap.size m0 m1 m2 m3 m4 m5 m6 m7 m8 m9 m10 m11 f n w w' ∧ w'.cell? ⟨w.heap.size, 0, none⟩ = some (.int .i64 m0) ∧ w'.cell? ⟨w.heap.size, 1, none⟩ = some (.int .i64 m1) ∧ w'.cell? ⟨w.heap.size, 2, none⟩ = some (.int .i64 m2) ∧ w'.cell? ⟨w.heap.size, 3, none⟩ = some (.int .i64 m3) ∧ w'.cell? ⟨w.heap.size, 4, none⟩ = some (.int .i64 m4) ∧ w'.cell? ⟨w.heap.size, 5, none⟩ = some (.int .i64 m5) ∧ w'.cell? ⟨w.heap.size, 6, none⟩ = some (.int .i64 m6) ∧ w'.cell? ⟨w.heap.size, 7, none⟩ = some (.int .i64 m7) ∧ w'.cell? ⟨w.heap.size, 8, none⟩ = some (.int .i64 m8) ∧ w'.cell? ⟨w.heap.size, 9, none⟩ = some (.int .i64 m9) ∧ w'.cell? ⟨w.heap.size, 10, none⟩ = some (.int .i64 m10) ∧ w'.cell? ⟨w.heap.size, 11, none⟩ = some (.int .i64 m11) ∧ w'.cell? ⟨w.heap.size, 12, none⟩ = some (.func (.func f) #[] #[]) ∧ w'.cell? ⟨w.heap.size + 1, 0, none⟩ = some (.int .i64 n))
    (first | exact Bx.all (Bx.drew hB.out) | exact Bx.all hB.out | (go_split_ands; exact Bx.all (Bx.next (by assumption) hb1)) | go_keep)
    (first | (go_at_call 46; go_split_ands; refine (hst.out _ _ (by omega) (by omega)).mono ?_; rintro e w1 ⟨rfl, hb1⟩; have hB1 := Lib.hid (Bx.next (by assumption) hb1)))
  clear hdec hdec2
  go_wp2_with fail
  refine (hse.out _ (Lib.hid hB1.out.cap)).mono ?_
  rintro e w2 ⟨hb2, i, rfl, i0, iN, ia, ib⟩
  obtain ⟨i1, ya, yb⟩ := hyear.out i i0 iN ia ib
  have hB2 := Lib.hid (hB1.out.next hb2)
  clear hb2 ia ib
  have hy0 : -9999 ≤ i - 1 - 9999 := by omega
  have hy1 : i - 1 - 9999 ≤ 9999 := by omega
  go_wp2_with fail
  have hD := Lib.hid (hB2.out.date (i - 1 - 9999))
  clear i0 iN i1
  generalize i - 1 - 9999 = y at *
  have sb := start_bd c y (by omega) (by omega)
  obtain ⟨sb0, sb1⟩ := sb
  have s1 : IntKind.i64.wrap (n - start c y) = n - start c y := IntWalk.i64_in _ (by omega)
  go_region_held3 (fun w' => Dt w.heap.size w2.heap.size m0 m1 m2 m3 m4 m5 m6 m7 m8 m9 m10 m11 f n y 1 0 w w' ∧ (w'.cell? ⟨w.heap.size, 0, none⟩ = some (.int .i64 m0) ∧ w'.cell? ⟨w.heap.size, 1, none⟩ = some (.int .i64 m1) ∧ w'.cell? ⟨w.heap.size, 2, none⟩ = some (.int .i64 m2) ∧ w'.cell? ⟨w.heap.size, 3, none⟩ = some (.int .i64 m3) ∧ w'.cell? ⟨w.heap.size, 4, none⟩ = some (.int .i64 m4) ∧ w'.cell? ⟨w.heap.size, 5, none⟩ = some (.int .i64 m5) ∧ w'.cell? ⟨w.heap.size, 6, none⟩ = some (.int .i64 m6) ∧ w'.cell? ⟨w.heap.size, 7, none⟩ = some (.int .i64 m7) ∧ w'.cell? ⟨w.heap.size, 8, none⟩ = some (.int .i64 m8) ∧ w'.cell? ⟨w.heap.size, 9, none⟩ = some (.int .i64 m9) ∧ w'.cell? ⟨w.heap.size, 10, none⟩ = some (.int .i64 m10) ∧ w'.cell? ⟨w.heap.size, 11, none⟩ = some (.int .i64 m11) ∧ w'.cell? ⟨w.heap.size, 12, none⟩ = some (.func (.func f) #[] #[])) ∧ w'.cell? ⟨w.heap.size + 1, 0, none⟩ = some (.int .i64 n) ∧ (w'.cell? ⟨w2.heap.size, 0, none⟩ = some (.int .i64 y) ∧ w'.cell? ⟨w2.heap.size, 1, none⟩ = some (.int .i64 1) ∧ w'.cell? ⟨w2.heap.size, 2, none⟩ = some (.int .i64 0)))
    (first | exact Dt.all (Dt.drew hD.out) | exact Dt.all hD.out | (go_split_ands; exact Dt.all (Dt.next (by assumption) hb1)) | go_keep)
    (first | (go_at_call 46; go_split_ands; refine (hst.out y _ (by omega) (by omega)).mono ?_; rintro e w3 ⟨rfl, hb1⟩; have hD1 := Lib.hid (Dt.next (by assumption) hb1)))
  clear s1
  go_wp2_with fail
  clear hB hB1 hB2 hyear hse hb1
  have hyb := Lib.hid yb
  have hss := Lib.hid (start_succ c y)
  go_loopw [8] (fun t wr => ∃ k : Int, 1 ≤ k ∧ k ≤ 12 ∧ t = .int .i64 (n - start c y - cum c y k) ∧ 0 ≤ n - start c y - cum c y k ∧ Hid (Dt w.heap.size w2.heap.size m0 m1 m2 m3 m4 m5 m6 m7 m8 m9 m10 m11 f n y k 0 w wr)) (fun t _ => (intOf t).toNat)
  case atStart => exact ⟨1, by omega, by omega, by rw [cum_one]; simp, by rw [cum_one]; omega, hD1⟩
  case round =>
    obtain ⟨k, k0, k1, rfl, t0, hDk⟩ := hrel
    obtain ⟨q0, q1⟩ := cum_bd c y k (by omega) (by omega)
    obtain ⟨q2, q3⟩ := dm_bd c y k
    have hcs := Lib.hid (cum_succ c y k k0 k1)
    obtain ⟨-, ⟨a0, a1, a2, a3, a4, a5, a6, a7, a8, a9, a10, a11, a12⟩, an, ay, ak, ad⟩ := hDk.out.all
    by_cases hlt : dm c y k ≤ n - start c y - cum c y k
    · have hk : k ≤ 11 := by
        have a := hcs.out
        have b := hss.out
        have e := hyb.out
        by_cases h12 : k = 12
        · subst h12
          have := cum_last c y
          rw [show (12 : Int) + 1 = 13 by omega] at a
          omega
        · omega
      go_wp2_with fail
      refine (hda.out y k _ (by omega) (by omega) (by omega) (by omega)).mono ?_
      rintro e w4 ⟨rfl, hb4⟩
      have hD4 := Lib.hid (hDk.out.next hb4)
      clear hb4 an ay ak ad a0 a1 a2 a3 a4 a5 a6 a7 a8 a9 a10 a11 a12
      obtain ⟨-, ⟨a0, a1, a2, a3, a4, a5, a6, a7, a8, a9, a10, a11, a12⟩, an, ay, ak, ad⟩ := hD4.out.all
      go_wp2_with fail
      refine (hda.out y k _ (by omega) (by omega) (by omega) (by omega)).mono ?_
      rintro e w5 ⟨rfl, hb5⟩
      have hD5 := Lib.hid (hD4.out.next hb5)
      clear hb5 an ay ak ad a0 a1 a2 a3 a4 a5 a6 a7 a8 a9 a10 a11 a12
      obtain ⟨-, ⟨a0, a1, a2, a3, a4, a5, a6, a7, a8, a9, a10, a11, a12⟩, an, ay, ak, ad⟩ := hD5.out.all
      obtain ⟨f1, f2⟩ := hD5.out.free
      go_wp2_with fail
      go_roundw
      case rel => exact ⟨k + 1, by omega, by omega, by rw [hcs.out]; go_num, by rw [hcs.out]; omega, Lib.hid (hD5.out.month (Nat.le_refl _) _)⟩
      case measure => simp [intOf]; omega
    · have hnum : num c y k (n - start c y - cum c y k + 1) = n := by unfold num; omega
      have hok : Ok c y k (n - start c y - cum c y k + 1) := ⟨by omega, by omega, by omega, by omega, by omega, by omega⟩
      have Hok := Lib.hid hok
      have Hnum := Lib.hid hnum
      clear hok hnum
      go_wp2_with fail
      refine (hda.out y k _ (by omega) (by omega) (by omega) (by omega)).mono ?_
      rintro e w4 ⟨rfl, hb4⟩
      have hD4 := Lib.hid (hDk.out.next hb4)
      clear hb4 an ay ak ad a0 a1 a2 a3 a4 a5 a6 a7 a8 a9 a10 a11 a12
      obtain ⟨-, -, an, ay, ak, ad⟩ := hD4.out.all
      obtain ⟨f1, f2⟩ := hD4.out.free
      have hD5 := hD4.out.day (Nat.le_refl _) (n - start c y - cum c y k + 1)
      go_upto_region 10 with (fail)
      generalize w4.setCell ⟨w2.heap.size, 2, none⟩ (.int .i64 (n - start c y - cum c y k + 1)) = w5 at *
      clear an ay ak ad f1 f2
      have HD5 := Lib.hid hD5
      clear hD5
      obtain ⟨-, -, an, ay, ak, ad⟩ := HD5.out.all
      obtain ⟨⟨r0, r1, r2⟩, g0, g1, g2⟩ := HD5.out.res
      generalize n - start c y - cum c y k + 1 = d at *
      go_wp2_with fail
      refine bodyPost_ret (v := .tuple #[.agg #[.int .i64 y, .int .i64 k, .int .i64 d], .int .i64 0]) (by simp [results, Tryd.results34, go_sem, r0, r1, r2]) rfl ⟨?_, y, k, d, rfl, Hok.out, Hnum.out⟩
      exact ((HD5.out.below.setCell (by show w.heap.size ≤ w.heap.size + 2; omega) _).setCell (by show w.heap.size ≤ w.heap.size + 2; omega) _).setCell (by show w.heap.size ≤ w.heap.size + 2; omega) _
end Go.Proofs.YthpeaeepcbbfcaaDoor
