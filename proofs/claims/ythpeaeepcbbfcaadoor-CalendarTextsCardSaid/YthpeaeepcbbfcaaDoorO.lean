/- DateOf; sane. -/
import Derived.Test.YthpeaeepcbbfcaaDoorN
namespace Go.Proofs.YthpeaeepcbbfcaaDoor
open Go.RowKit

theorem setCell3 {w W : World} (h : Below w.heap.size w W) (a b c : Value) : Below w.heap.size w (((W.setCell ⟨w.heap.size, 0, none⟩ a).setCell ⟨w.heap.size, 1, none⟩ b).setCell ⟨w.heap.size, 2, none⟩ c) :=
  ((h.setCell (Nat.le_refl _) _).setCell (Nat.le_refl _) _).setCell (Nat.le_refl _) _

set_option maxRecDepth 100000 in
set_option maxHeartbeats 1600000 in
theorem dateOf_no (c n : Int) (w : World) (h : ¬ isCal c) : Calls Tryd.prog 18 #[.int .i64 c, .int .i64 n] w fun e w' => e = .returned (.tuple #[.agg #[.int .i64 0, .int .i64 0, .int .i64 0], .int .i64 20]) ∧ Below w.heap.size w w' := by
  have hr := Lib.hid (fun W => rulesOf_no c W h)
  clear h
  go_enter Tryd.func18, Tryd.ntmps18
  go_wp2_with fail
  refine (hr.out _).mono ?_
  rintro e w2 ⟨rfl, hb2⟩
  obtain ⟨Hx, Hb, hz⟩ := kept_box hb2
  have hx2 := (heap_old w2 (.cells #[.int .i64 0, .int .i64 0, .int .i64 0, .int .i64 0, .int .i64 0, .int .i64 0, .int .i64 0, .int .i64 0, .int .i64 0, .int .i64 0, .int .i64 0, .int .i64 0, .nilFunc] 34) w.heap.size (by omega)).trans Hx
  have e0 := cell_of_heap hx2 0
  have e1 := cell_of_heap hx2 1
  have e2 := cell_of_heap hx2 2
  have f0 := free_of_heap hx2 0
  have f1 := free_of_heap hx2 1
  have f2 := free_of_heap hx2 2
  have HB := Lib.hid (kept_more (o := .cells #[.int .i64 0, .int .i64 0, .int .i64 0, .int .i64 0, .int .i64 0, .int .i64 0, .int .i64 0, .int .i64 0, .int .i64 0, .int .i64 0, .int .i64 0, .int .i64 0, .nilFunc] 34) Hb)
  clear hb2 Hb Hx hx2
  go_wp2_with fail
  refine bodyPost_ret (v := .tuple #[.agg #[.int .i64 0, .int .i64 0, .int .i64 0], .int .i64 20]) (by simp [results, Tryd.results18, go_sem, e0, e1, e2]) rfl ⟨rfl, setCell3 HB.out _ _ _⟩

set_option maxRecDepth 100000 in
set_option maxHeartbeats 1600000 in
theorem dateOf_low (c n : Int) (w : World) (h : isCal c) (h0 : n < start c (-9999)) : Calls Tryd.prog 18 #[.int .i64 c, .int .i64 n] w fun e w' => e = .returned (.tuple #[.agg #[.int .i64 0, .int .i64 0, .int .i64 0], .int .i64 21]) ∧ Below w.heap.size w w' := by
  have hro := Lib.hid (fun W => rulesOf_ok c W h)
  have hda := Lib.hid (fun r W (hr : IsRules c r) => date_low r c n W hr h0)
  clear h h0
  go_enter Tryd.func18, Tryd.ntmps18
  go_wp2_with fail
  refine (hro.out _).mono ?_
  rintro e w2 ⟨r, rfl, hr, hb2⟩
  obtain ⟨m0, m1, m2, m3, m4, m5, m6, m7, m8, m9, m10, m11, f, rfl⟩ := hr.form
  obtain ⟨Hx, Hb, hz⟩ := kept_box hb2
  have hx2 := (heap_old w2 (.cells #[.int .i64 m0, .int .i64 m1, .int .i64 m2, .int .i64 m3, .int .i64 m4, .int .i64 m5, .int .i64 m6, .int .i64 m7, .int .i64 m8, .int .i64 m9, .int .i64 m10, .int .i64 m11, .func (.func f) #[] #[]] 34) w.heap.size (by omega)).trans Hx
  have Hx2 := Lib.hid hx2
  have HB := Lib.hid (kept_more (o := .cells #[.int .i64 m0, .int .i64 m1, .int .i64 m2, .int .i64 m3, .int .i64 m4, .int .i64 m5, .int .i64 m6, .int .i64 m7, .int .i64 m8, .int .i64 m9, .int .i64 m10, .int .i64 m11, .func (.func f) #[] #[]] 34) Hb)
  have hd := Lib.hid (hda.out _ (w2.alloc (.cells #[.int .i64 m0, .int .i64 m1, .int .i64 m2, .int .i64 m3, .int .i64 m4, .int .i64 m5, .int .i64 m6, .int .i64 m7, .int .i64 m8, .int .i64 m9, .int .i64 m10, .int .i64 m11, .func (.func f) #[] #[]] 34)) hr)
  clear hb2 Hb Hx hx2 hr hda
  go_wp2_with fail
  refine hd.out.mono ?_
  rintro e w3 ⟨rfl, hb3⟩
  have hx3 := (hb3.block w.heap.size (by simp; omega)).trans Hx2.out
  have e0 := cell_of_heap hx3 0
  have e1 := cell_of_heap hx3 1
  have e2 := cell_of_heap hx3 2
  have f0 := free_of_heap hx3 0
  have f1 := free_of_heap hx3 1
  have f2 := free_of_heap hx3 2
  have HB3 := Lib.hid (HB.out.trans (hb3.mono HB.out.size))
  clear hb3 hx3
  go_wp2_with fail
  refine bodyPost_ret (v := .tuple #[.agg #[.int .i64 0, .int .i64 0, .int .i64 0], .int .i64 21]) (by simp [results, Tryd.results18, go_sem, e0, e1, e2]) rfl ⟨rfl, setCell3 HB3.out _ _ _⟩

set_option maxRecDepth 100000 in
set_option maxHeartbeats 1600000 in
theorem dateOf_high (c n : Int) (w : World) (h : isCal c) (h0 : start c (-9999) ≤ n) (h1 : start c 10000 ≤ n) : Calls Tryd.prog 18 #[.int .i64 c, .int .i64 n] w fun e w' => e = .returned (.tuple #[.agg #[.int .i64 0, .int .i64 0, .int .i64 0], .int .i64 21]) ∧ Below w.heap.size w w' := by
  have hro := Lib.hid (fun W => rulesOf_ok c W h)
  have hda := Lib.hid (fun r W (hr : IsRules c r) => date_high r c n W hr h0 h1)
  clear h h0 h1
  go_enter Tryd.func18, Tryd.ntmps18
  go_wp2_with fail
  refine (hro.out _).mono ?_
  rintro e w2 ⟨r, rfl, hr, hb2⟩
  obtain ⟨m0, m1, m2, m3, m4, m5, m6, m7, m8, m9, m10, m11, f, rfl⟩ := hr.form
  obtain ⟨Hx, Hb, hz⟩ := kept_box hb2
  have hx2 := (heap_old w2 (.cells #[.int .i64 m0, .int .i64 m1, .int .i64 m2, .int .i64 m3, .int .i64 m4, .int .i64 m5, .int .i64 m6, .int .i64 m7, .int .i64 m8, .int .i64 m9, .int .i64 m10, .int .i64 m11, .func (.func f) #[] #[]] 34) w.heap.size (by omega)).trans Hx
  have Hx2 := Lib.hid hx2
  have HB := Lib.hid (kept_more (o := .cells #[.int .i64 m0, .int .i64 m1, .int .i64 m2, .int .i64 m3, .int .i64 m4, .int .i64 m5, .int .i64 m6, .int .i64 m7, .int .i64 m8, .int .i64 m9, .int .i64 m10, .int .i64 m11, .func (.func f) #[] #[]] 34) Hb)
  have hd := Lib.hid (hda.out _ (w2.alloc (.cells #[.int .i64 m0, .int .i64 m1, .int .i64 m2, .int .i64 m3, .int .i64 m4, .int .i64 m5, .int .i64 m6, .int .i64 m7, .int .i64 m8, .int .i64 m9, .int .i64 m10, .int .i64 m11, .func (.func f) #[] #[]] 34)) hr)
  clear hb2 Hb Hx hx2 hr hda
  go_wp2_with fail
  refine hd.out.mono ?_
  rintro e w3 ⟨rfl, hb3⟩
  have hx3 := (hb3.block w.heap.size (by simp; omega)).trans Hx2.out
  have e0 := cell_of_heap hx3 0
  have e1 := cell_of_heap hx3 1
  have e2 := cell_of_heap hx3 2
  have f0 := free_of_heap hx3 0
  have f1 := free_of_heap hx3 1
  have f2 := free_of_heap hx3 2
  have HB3 := Lib.hid (HB.out.trans (hb3.mono HB.out.size))
  clear hb3 hx3
  go_wp2_with fail
  refine bodyPost_ret (v := .tuple #[.agg #[.int .i64 0, .int .i64 0, .int .i64 0], .int .i64 21]) (by simp [results, Tryd.results18, go_sem, e0, e1, e2]) rfl ⟨rfl, setCell3 HB3.out _ _ _⟩

set_option maxRecDepth 100000 in
set_option maxHeartbeats 1600000 in
theorem dateOf_ok (c n : Int) (w : World) (h : isCal c) (h0 : start c (-9999) ≤ n) (h1 : n < start c 10000) : Calls Tryd.prog 18 #[.int .i64 c, .int .i64 n] w (DatePost c n w) := by
  have hro := Lib.hid (fun W => rulesOf_ok c W h)
  have hda := Lib.hid (fun r W (hr : IsRules c r) => date_ok r c n W hr h0 h1)
  clear h h0 h1
  go_enter Tryd.func18, Tryd.ntmps18
  go_wp2_with fail
  refine (hro.out _).mono ?_
  rintro e w2 ⟨r, rfl, hr, hb2⟩
  obtain ⟨m0, m1, m2, m3, m4, m5, m6, m7, m8, m9, m10, m11, f, rfl⟩ := hr.form
  obtain ⟨Hx, Hb, hz⟩ := kept_box hb2
  have hx2 := (heap_old w2 (.cells #[.int .i64 m0, .int .i64 m1, .int .i64 m2, .int .i64 m3, .int .i64 m4, .int .i64 m5, .int .i64 m6, .int .i64 m7, .int .i64 m8, .int .i64 m9, .int .i64 m10, .int .i64 m11, .func (.func f) #[] #[]] 34) w.heap.size (by omega)).trans Hx
  have Hx2 := Lib.hid hx2
  have HB := Lib.hid (kept_more (o := .cells #[.int .i64 m0, .int .i64 m1, .int .i64 m2, .int .i64 m3, .int .i64 m4, .int .i64 m5, .int .i64 m6, .int .i64 m7, .int .i64 m8, .int .i64 m9, .int .i64 m10, .int .i64 m11, .func (.func f) #[] #[]] 34) Hb)
  have hd := Lib.hid (hda.out _ (w2.alloc (.cells #[.int .i64 m0, .int .i64 m1, .int .i64 m2, .int .i64 m3, .int .i64 m4, .int .i64 m5, .int .i64 m6, .int .i64 m7, .int .i64 m8, .int .i64 m9, .int .i64 m10, .int .i64 m11, .func (.func f) #[] #[]] 34)) hr)
  clear hb2 Hb Hx hx2 hr hda
  go_wp2_with fail
  refine hd.out.mono ?_
  rintro e w3 ⟨hb3, y, m, d, rfl, hok, hnum⟩
  have hok := Lib.hid hok
  have hnum := Lib.hid hnum
  have hx3 := (hb3.block w.heap.size (by simp; omega)).trans Hx2.out
  have e0 := cell_of_heap hx3 0
  have e1 := cell_of_heap hx3 1
  have e2 := cell_of_heap hx3 2
  have f0 := free_of_heap hx3 0
  have f1 := free_of_heap hx3 1
  have f2 := free_of_heap hx3 2
  have HB3 := Lib.hid (HB.out.trans (hb3.mono HB.out.size))
  clear hb3 hx3
  go_wp2_with fail
  refine bodyPost_ret (v := .tuple #[.agg #[.int .i64 y, .int .i64 m, .int .i64 d], .int .i64 0]) (by simp [results, Tryd.results18, go_sem, e0, e1, e2]) rfl ⟨setCell3 HB3.out _ _ _, y, m, d, rfl, hok.out, hnum.out⟩

theorem dateOf_bad (c n : Int) (w : World) (h : isCal c) (hn : ¬ (start c (-9999) ≤ n ∧ n < start c 10000)) : Calls Tryd.prog 18 #[.int .i64 c, .int .i64 n] w fun e w' => e = .returned (.tuple #[.agg #[.int .i64 0, .int .i64 0, .int .i64 0], .int .i64 21]) ∧ Below w.heap.size w w' := by
  by_cases h0 : n < start c (-9999)
  · exact dateOf_low c n w h h0
  · exact dateOf_high c n w h (by omega) (by omega)

theorem start1_ok : start 1 (-9999) ≤ 366 ∧ 366 < start 1 10000 := by decide
theorem date366 {y m d : Int} (h : Ok 1 y m d) (e : num 1 y m d = 366) : y = 1 ∧ m = 1 ∧ d = 1 :=
  num_inj h (show Ok 1 1 1 1 by decide) (e.trans (by decide))
/-- sane's date. -/
theorem dateOf_366 (w : World) : Calls Tryd.prog 18 #[.int .i64 1, .int .i64 366] w fun e w' => e = .returned (.tuple #[.agg #[.int .i64 1, .int .i64 1, .int .i64 1], .int .i64 0]) ∧ Below w.heap.size w w' :=
  (dateOf_ok 1 366 w (by decide) start1_ok.1 start1_ok.2).mono fun e w' ⟨hb, y, m, d, he, hok, hnum⟩ => by
    obtain ⟨rfl, rfl, rfl⟩ := date366 hok hnum
    exact ⟨he, hb⟩
theorem number_366 (w : World) : Calls Tryd.prog 17 #[.int .i64 1, .agg #[.int .i64 1, .int .i64 1, .int .i64 1]] w fun e w' => e = .returned (.tuple #[.int .i64 366, .int .i64 0]) ∧ Below w.heap.size w w' :=
  number_yes 1 1 1 1 w (by decide) (by decide)

set_option maxRecDepth 100000 in
set_option maxHeartbeats 1600000 in
theorem sane_any (w : World) : Calls Tryd.prog 8 #[] w fun e w' => e = .returned (.bool true) ∧ Below w.heap.size w w' := by
  have hn := Lib.hid number_366
  have hd := Lib.hid dateOf_366
  go_enter Tryd.func8, Tryd.ntmps8
  go_wp2_with fail
  refine (hn.out _).mono ?_
  rintro e w2 ⟨rfl, hb2⟩
  have HB := Lib.hid hb2
  clear hb2
  go_wp2_with fail
  refine (hd.out _).mono ?_
  rintro e w3 ⟨rfl, hb3⟩
  have HB3 := Lib.hid (kept_more (o := .cells #[.int .i64 1, .int .i64 1, .int .i64 1] 23) (HB.out.trans (hb3.mono HB.out.size)))
  clear hb3
  go_wp2_with fail
  go_ret
  exact ⟨rfl, HB3.out⟩
end Go.Proofs.YthpeaeepcbbfcaaDoor
