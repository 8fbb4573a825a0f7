/- Units: Times, Over. -/
import Derived.Test.YtigicjakloiliaaGreatDoorPart22
namespace Go.Proofs.YtigicjakloiliaaGreatDoor
open Go.RowKit Go.Lib Big

theorem plainIs (f o : ByteArray) (p0 p1 p2 p3 p4 p5 p6 : Int) (w : World) (htab : Tab w) (b : Bool) (h : plainT (tU f o p0 p1 p2 p3 p4 p5 p6) = b) : PlainIs w (.agg #[.string f, .string o, .int .i64 p0, .int .i64 p1, .int .i64 p2, .int .i64 p3, .int .i64 p4, .int .i64 p5, .int .i64 p6]) b := fun W hW => Lib.hid (by
  have := isPlain_any f o p0 p1 p2 p3 p4 p5 p6 W (htab.below hW)
  rwa [h] at this)
theorem combined_any (f o : ByteArray) (p0 p1 p2 p3 p4 p5 p6 : Int) (f' o' : ByteArray) (r0 r1 r2 r3 r4 r5 r6 : Int) (n : Int) (hn : n = 1 ∨ n = -1) (w : World) (htab : Tab w) : Calls Tryz.prog 117 #[.agg #[.string f, .string o, .int .i64 p0, .int .i64 p1, .int .i64 p2, .int .i64 p3, .int .i64 p4, .int .i64 p5, .int .i64 p6], .agg #[.string f', .string o', .int .i64 r0, .int .i64 r1, .int .i64 r2, .int .i64 r3, .int .i64 r4, .int .i64 r5, .int .i64 r6], .int .i64 n] w (UnitPost (combT (tU f o p0 p1 p2 p3 p4 p5 p6) (tU f' o' r0 r1 r2 r3 r4 r5 r6) n) w) := by
  cases hu : plainT (tU f o p0 p1 p2 p3 p4 p5 p6) with
  | false =>
    have h := combined_no1 f o p0 p1 p2 p3 p4 p5 p6 f' o' r0 r1 r2 r3 r4 r5 r6 n w (plainIs f o p0 p1 p2 p3 p4 p5 p6 w htab _ hu)
    unfold combT; rw [hu]; exact h
  | true =>
    cases hv : plainT (tU f' o' r0 r1 r2 r3 r4 r5 r6) with
    | false =>
      have h := combined_no2 f o p0 p1 p2 p3 p4 p5 p6 f' o' r0 r1 r2 r3 r4 r5 r6 n w (plainIs f o p0 p1 p2 p3 p4 p5 p6 w htab _ hu) (plainIs f' o' r0 r1 r2 r3 r4 r5 r6 w htab _ hv)
      unfold combT; rw [hu, hv]; exact h
    | true =>
      obtain ⟨u1, u2, u3, u4⟩ := plainT_iff.1 hu
      obtain ⟨v1, v2, v3, v4⟩ := plainT_iff.1 hv
      have h := combined_ok f o p0 p1 p2 p3 p4 p5 p6 f' o' r0 r1 r2 r3 r4 r5 r6 n _ _ hn u3 v3 u1 v1 (by grind) w htab (plainIs f o p0 p1 p2 p3 p4 p5 p6 w htab _ hu) (plainIs f' o' r0 r1 r2 r3 r4 r5 r6 w htab _ hv)
      unfold combT; rw [hu, hv]; exact h
set_option maxRecDepth 100000 in
set_option maxHeartbeats 1600000 in
theorem times_any (f o : ByteArray) (p0 p1 p2 p3 p4 p5 p6 : Int) (f' o' : ByteArray) (r0 r1 r2 r3 r4 r5 r6 : Int) (w : World) (htab : Tab w) : Calls Tryz.prog 60 #[.agg #[.string f, .string o, .int .i64 p0, .int .i64 p1, .int .i64 p2, .int .i64 p3, .int .i64 p4, .int .i64 p5, .int .i64 p6], .agg #[.string f', .string o', .int .i64 r0, .int .i64 r1, .int .i64 r2, .int .i64 r3, .int .i64 r4, .int .i64 r5, .int .i64 r6]] w (UnitPost (combT (tU f o p0 p1 p2 p3 p4 p5 p6) (tU f' o' r0 r1 r2 r3 r4 r5 r6) (1)) w) := by
  have hk0 : Hid (Keep w (((w.alloc (.cells #[.string f, .string o, .int .i64 p0, .int .i64 p1, .int .i64 p2, .int .i64 p3, .int .i64 p4, .int .i64 p5, .int .i64 p6] 53)).alloc (.cells #[.string f', .string o', .int .i64 r0, .int .i64 r1, .int .i64 r2, .int .i64 r3, .int .i64 r4, .int .i64 r5, .int .i64 r6] 53)).alloc (.cells #[.string ⟨#[]⟩, .string ⟨#[]⟩, .int .i64 0, .int .i64 0, .int .i64 0, .int .i64 0, .int .i64 0, .int .i64 0, .int .i64 0] 53)) [(w.heap.size + 1 + 1, #[.string ⟨#[]⟩, .string ⟨#[]⟩, .int .i64 0, .int .i64 0, .int .i64 0, .int .i64 0, .int .i64 0, .int .i64 0, .int .i64 0], 53), (w.heap.size + 1, #[.string f', .string o', .int .i64 r0, .int .i64 r1, .int .i64 r2, .int .i64 r3, .int .i64 r4, .int .i64 r5, .int .i64 r6], 53), (w.heap.size, #[.string f, .string o, .int .i64 p0, .int .i64 p1, .int .i64 p2, .int .i64 p3, .int .i64 p4, .int .i64 p5, .int .i64 p6], 53)]) := Lib.hid (Keep.three w _ _ _ 53 53 53)
  have hcm := Lib.hid (combined_any f o p0 p1 p2 p3 p4 p5 p6 f' o' r0 r1 r2 r3 r4 r5 r6 (1) (by decide) (((w.alloc (.cells #[.string f, .string o, .int .i64 p0, .int .i64 p1, .int .i64 p2, .int .i64 p3, .int .i64 p4, .int .i64 p5, .int .i64 p6] 53)).alloc (.cells #[.string f', .string o', .int .i64 r0, .int .i64 r1, .int .i64 r2, .int .i64 r3, .int .i64 r4, .int .i64 r5, .int .i64 r6] 53)).alloc (.cells #[.string ⟨#[]⟩, .string ⟨#[]⟩, .int .i64 0, .int .i64 0, .int .i64 0, .int .i64 0, .int .i64 0, .int .i64 0, .int .i64 0] 53)) (htab.below hk0.out.below))
  generalize combT (tU f o p0 p1 p2 p3 p4 p5 p6) (tU f' o' r0 r1 r2 r3 r4 r5 r6) (1) = res at hcm ⊢
  clear htab
  go_enter Tryz.func60, Tryz.ntmps60
  go_wp2_with fail
  refine (hcm.out).mono ?_
  rintro e w2 ⟨fr, orr, q0, q1, q2, q3, q4, q5, q6, rfl, htU, hb2⟩
  have Hres2 := Lib.hid (keep_resU (hk0.out.next hb2))
  obtain ⟨z0, z1, z2, z3, z4, z5, z6, z7, z8, ⟨l0, l1, l2, l3, l4, l5, l6, l7, l8⟩, ⟨f0, f1, f2, f3, f4, f5, f6, f7, f8⟩⟩ := Hres2.out.slots
  have hfin : Hid (∀ W, W = ((((((((((w2).setCell ⟨w.heap.size + 1 + 1, 0, none⟩ (.string fr)).setCell ⟨w.heap.size + 1 + 1, 1, none⟩ (.string orr)).setCell ⟨w.heap.size + 1 + 1, 2, none⟩ (.int .i64 q0)).setCell ⟨w.heap.size + 1 + 1, 3, none⟩ (.int .i64 q1)).setCell ⟨w.heap.size + 1 + 1, 4, none⟩ (.int .i64 q2)).setCell ⟨w.heap.size + 1 + 1, 5, none⟩ (.int .i64 q3)).setCell ⟨w.heap.size + 1 + 1, 6, none⟩ (.int .i64 q4)).setCell ⟨w.heap.size + 1 + 1, 7, none⟩ (.int .i64 q5)).setCell ⟨w.heap.size + 1 + 1, 8, none⟩ (.int .i64 q6)) → UnitPost res w (.returned (.tuple #[.agg #[.string fr, .string orr, .int .i64 q0, .int .i64 q1, .int .i64 q2, .int .i64 q3, .int .i64 q4, .int .i64 q5, .int .i64 q6], .int .i64 res.2])) W) := Lib.hid (by
    rintro W rfl
    exact ⟨_, _, _, _, _, _, _, _, _, rfl, htU, Hres2.out.put9 (by first | omega | (simp; done) | (simp; omega)) (.string fr) (.string orr) (.int .i64 q0) (.int .i64 q1) (.int .i64 q2) (.int .i64 q3) (.int .i64 q4) (.int .i64 q5) (.int .i64 q6)⟩)
  clear hb2
  go_wp2_with fail
  have hcells := Hres2.out.put9_heap (.string fr) (.string orr) (.int .i64 q0) (.int .i64 q1) (.int .i64 q2) (.int .i64 q3) (.int .i64 q4) (.int .i64 q5) (.int .i64 q6)
  generalize (((((((((w2).setCell ⟨w.heap.size + 1 + 1, 0, none⟩ (.string fr)).setCell ⟨w.heap.size + 1 + 1, 1, none⟩ (.string orr)).setCell ⟨w.heap.size + 1 + 1, 2, none⟩ (.int .i64 q0)).setCell ⟨w.heap.size + 1 + 1, 3, none⟩ (.int .i64 q1)).setCell ⟨w.heap.size + 1 + 1, 4, none⟩ (.int .i64 q2)).setCell ⟨w.heap.size + 1 + 1, 5, none⟩ (.int .i64 q3)).setCell ⟨w.heap.size + 1 + 1, 6, none⟩ (.int .i64 q4)).setCell ⟨w.heap.size + 1 + 1, 7, none⟩ (.int .i64 q5)).setCell ⟨w.heap.size + 1 + 1, 8, none⟩ (.int .i64 q6) = WW at hcells hfin ⊢
  have c0 := cell_of_heap hcells 0
  have c1 := cell_of_heap hcells 1
  have c2 := cell_of_heap hcells 2
  have c3 := cell_of_heap hcells 3
  have c4 := cell_of_heap hcells 4
  have c5 := cell_of_heap hcells 5
  have c6 := cell_of_heap hcells 6
  have c7 := cell_of_heap hcells 7
  have c8 := cell_of_heap hcells 8
  refine bodyPost_ret (v := .tuple #[.agg #[.string fr, .string orr, .int .i64 q0, .int .i64 q1, .int .i64 q2, .int .i64 q3, .int .i64 q4, .int .i64 q5, .int .i64 q6], .int .i64 res.2]) (by simp [results, Tryz.results60, go_sem, c0, c1, c2, c3, c4, c5, c6, c7, c8]) rfl ?_
  exact hfin.out _ rfl

set_option maxRecDepth 100000 in
set_option maxHeartbeats 1600000 in
theorem over_any (f o : ByteArray) (p0 p1 p2 p3 p4 p5 p6 : Int) (f' o' : ByteArray) (r0 r1 r2 r3 r4 r5 r6 : Int) (w : World) (htab : Tab w) : Calls Tryz.prog 62 #[.agg #[.string f, .string o, .int .i64 p0, .int .i64 p1, .int .i64 p2, .int .i64 p3, .int .i64 p4, .int .i64 p5, .int .i64 p6], .agg #[.string f', .string o', .int .i64 r0, .int .i64 r1, .int .i64 r2, .int .i64 r3, .int .i64 r4, .int .i64 r5, .int .i64 r6]] w (UnitPost (combT (tU f o p0 p1 p2 p3 p4 p5 p6) (tU f' o' r0 r1 r2 r3 r4 r5 r6) (-1)) w) := by
  have hk0 : Hid (Keep w (((w.alloc (.cells #[.string f, .string o, .int .i64 p0, .int .i64 p1, .int .i64 p2, .int .i64 p3, .int .i64 p4, .int .i64 p5, .int .i64 p6] 53)).alloc (.cells #[.string f', .string o', .int .i64 r0, .int .i64 r1, .int .i64 r2, .int .i64 r3, .int .i64 r4, .int .i64 r5, .int .i64 r6] 53)).alloc (.cells #[.string ⟨#[]⟩, .string ⟨#[]⟩, .int .i64 0, .int .i64 0, .int .i64 0, .int .i64 0, .int .i64 0, .int .i64 0, .int .i64 0] 53)) [(w.heap.size + 1 + 1, #[.string ⟨#[]⟩, .string ⟨#[]⟩, .int .i64 0, .int .i64 0, .int .i64 0, .int .i64 0, .int .i64 0, .int .i64 0, .int .i64 0], 53), (w.heap.size + 1, #[.string f', .string o', .int .i64 r0, .int .i64 r1, .int .i64 r2, .int .i64 r3, .int .i64 r4, .int .i64 r5, .int .i64 r6], 53), (w.heap.size, #[.string f, .string o, .int .i64 p0, .int .i64 p1, .int .i64 p2, .int .i64 p3, .int .i64 p4, .int .i64 p5, .int .i64 p6], 53)]) := Lib.hid (Keep.three w _ _ _ 53 53 53)
  have hcm := Lib.hid (combined_any f o p0 p1 p2 p3 p4 p5 p6 f' o' r0 r1 r2 r3 r4 r5 r6 (-1) (by decide) (((w.alloc (.cells #[.string f, .string o, .int .i64 p0, .int .i64 p1, .int .i64 p2, .int .i64 p3, .int .i64 p4, .int .i64 p5, .int .i64 p6] 53)).alloc (.cells #[.string f', .string o', .int .i64 r0, .int .i64 r1, .int .i64 r2, .int .i64 r3, .int .i64 r4, .int .i64 r5, .int .i64 r6] 53)).alloc (.cells #[.string ⟨#[]⟩, .string ⟨#[]⟩, .int .i64 0, .int .i64 0, .int .i64 0, .int .i64 0, .int .i64 0, .int .i64 0, .int .i64 0] 53)) (htab.below hk0.out.below))
  generalize combT (tU f o p0 p1 p2 p3 p4 p5 p6) (tU f' o' r0 r1 r2 r3 r4 r5 r6) (-1) = res at hcm ⊢
  clear htab
  go_enter Tryz.func62, Tryz.ntmps62
  go_wp2_with fail
  refine (hcm.out).mono ?_
  rintro e w2 ⟨fr, orr, q0, q1, q2, q3, q4, q5, q6, rfl, htU, hb2⟩
  have Hres2 := Lib.hid (keep_resU (hk0.out.next hb2))
  obtain ⟨z0, z1, z2, z3, z4, z5, z6, z7, z8, ⟨l0, l1, l2, l3, l4, l5, l6, l7, l8⟩, ⟨f0, f1, f2, f3, f4, f5, f6, f7, f8⟩⟩ := Hres2.out.slots
  have hfin : Hid (∀ W, W = ((((((((((w2).setCell ⟨w.heap.size + 1 + 1, 0, none⟩ (.string fr)).setCell ⟨w.heap.size + 1 + 1, 1, none⟩ (.string orr)).setCell ⟨w.heap.size + 1 + 1, 2, none⟩ (.int .i64 q0)).setCell ⟨w.heap.size + 1 + 1, 3, none⟩ (.int .i64 q1)).setCell ⟨w.heap.size + 1 + 1, 4, none⟩ (.int .i64 q2)).setCell ⟨w.heap.size + 1 + 1, 5, none⟩ (.int .i64 q3)).setCell ⟨w.heap.size + 1 + 1, 6, none⟩ (.int .i64 q4)).setCell ⟨w.heap.size + 1 + 1, 7, none⟩ (.int .i64 q5)).setCell ⟨w.heap.size + 1 + 1, 8, none⟩ (.int .i64 q6)) → UnitPost res w (.returned (.tuple #[.agg #[.string fr, .string orr, .int .i64 q0, .int .i64 q1, .int .i64 q2, .int .i64 q3, .int .i64 q4, .int .i64 q5, .int .i64 q6], .int .i64 res.2])) W) := Lib.hid (by
    rintro W rfl
    exact ⟨_, _, _, _, _, _, _, _, _, rfl, htU, Hres2.out.put9 (by first | omega | (simp; done) | (simp; omega)) (.string fr) (.string orr) (.int .i64 q0) (.int .i64 q1) (.int .i64 q2) (.int .i64 q3) (.int .i64 q4) (.int .i64 q5) (.int .i64 q6)⟩)
  clear hb2
  go_wp2_with fail
  have hcells := Hres2.out.put9_heap (.string fr) (.string orr) (.int .i64 q0) (.int .i64 q1) (.int .i64 q2) (.int .i64 q3) (.int .i64 q4) (.int .i64 q5) (.int .i64 q6)
  generalize (((((((((w2).setCell ⟨w.heap.size + 1 + 1, 0, none⟩ (.string fr)).setCell ⟨w.heap.size + 1 + 1, 1, none⟩ (.string orr)).setCell ⟨w.heap.size + 1 + 1, 2, none⟩ (.int .i64 q0)).setCell ⟨w.heap.size + 1 + 1, 3, none⟩ (.int .i64 q1)).setCell ⟨w.heap.size + 1 + 1, 4, none⟩ (.int .i64 q2)).setCell ⟨w.heap.size + 1 + 1, 5, none⟩ (.int .i64 q3)).setCell ⟨w.heap.size + 1 + 1, 6, none⟩ (.int .i64 q4)).setCell ⟨w.heap.size + 1 + 1, 7, none⟩ (.int .i64 q5)).setCell ⟨w.heap.size + 1 + 1, 8, none⟩ (.int .i64 q6) = WW at hcells hfin ⊢
  have c0 := cell_of_heap hcells 0
  have c1 := cell_of_heap hcells 1
  have c2 := cell_of_heap hcells 2
  have c3 := cell_of_heap hcells 3
  have c4 := cell_of_heap hcells 4
  have c5 := cell_of_heap hcells 5
  have c6 := cell_of_heap hcells 6
  have c7 := cell_of_heap hcells 7
  have c8 := cell_of_heap hcells 8
  refine bodyPost_ret (v := .tuple #[.agg #[.string fr, .string orr, .int .i64 q0, .int .i64 q1, .int .i64 q2, .int .i64 q3, .int .i64 q4, .int .i64 q5, .int .i64 q6], .int .i64 res.2]) (by simp [results, Tryz.results62, go_sem, c0, c1, c2, c3, c4, c5, c6, c7, c8]) rfl ?_
  exact hfin.out _ rfl

end Go.Proofs.YtigicjakloiliaaGreatDoor
