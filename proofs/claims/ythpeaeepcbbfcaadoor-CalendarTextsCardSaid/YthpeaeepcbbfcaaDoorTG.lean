/- The texts of dates: Format. -/
import Derived.Test.YthpeaeepcbbfcaaDoorTF
import Derived.Deep.RegionHeld3
namespace Go.Proofs.YthpeaeepcbbfcaaDoor
open Go.RowKit

/-- A call of a function that writes a number in digits. -/
def PadIs (F : Nat) (w : World) (n k : Int) (t : ByteArray) : Prop := ∀ W, Below w.heap.size w W → Calls Tryd.prog F #[.int .i64 n, .int .i64 k] W fun e w' => e = .returned (.string t) ∧ Below W.heap.size W w'
/-- What Format keeps: the date's box. -/
structure Fk (w0 : World) (g : Nat) (y m d : Int) (W : World) : Prop where
  below : Below w0.heap.size w0 W
  box : Bk W g #[.int .i64 y, .int .i64 m, .int .i64 d] 23
variable {w0 W W' : World} {g : Nat} {y m d : Int}
theorem Fk.next (h : Fk w0 g y m d W) (hb : Below W.heap.size W W') : Fk w0 g y m d W' := ⟨bel_next h.below hb, h.box.next hb⟩
theorem Fk.drew (h : Fk w0 g y m d W) : Fk w0 g y m d W.drew := ⟨h.below.drew, h.box⟩
theorem Fk.all (h : Fk w0 g y m d W) : Fk w0 g y m d W ∧ W.cell? ⟨g, 0, none⟩ = some (.int .i64 y) ∧ W.cell? ⟨g, 1, none⟩ = some (.int .i64 m) ∧ W.cell? ⟨g, 2, none⟩ = some (.int .i64 d) := ⟨h, h.box.cell 0, h.box.cell 1, h.box.cell 2⟩
/-- A sum of strings. -/
def AddIs (a b x : ByteArray) : Prop := ∀ W, (Op.stringOp .add a b).run Tryd.prog W = .ok (.string x) W
theorem addIs (a b : ByteArray) (h : a.size + b.size ≤ 9223372036854775807) : AddIs a b (a ++ b) := fun W => run_string_add_sum W a b h
theorem Fk.drewN (h : Fk w0 g y m d W) (n : Nat) : Fk w0 g y m d (W.drewN n) := ⟨⟨h.below.os, h.below.tape, h.below.output, h.below.size, h.below.block⟩, h.box⟩

set_option maxRecDepth 100000 in
set_option maxHeartbeats 3200000 in
theorem format_nocal (c y m d : Int) (w : World) (ha : ¬ isCal c) : Calls Tryd.prog 4 #[.int .i64 c, .agg #[.int .i64 y, .int .i64 m, .int .i64 d]] w fun e w' => e = .returned (.tuple #[.string ⟨#[]⟩, .int .i64 20]) ∧ Below w.heap.size w w' := by
  have h1 := Lib.hid (fun W => rulesOf_no c W ha)
  clear ha
  have HB := Lib.hid (Below.refl w.heap.size w)
  have bd := Lib.hid (Bk.newAt w #[.int .i64 y, .int .i64 m, .int .i64 d] 23 (w.heap.size) (by simp))
  have HB := Lib.hid (kept_more (o := (.cells #[.int .i64 y, .int .i64 m, .int .i64 d] 23)) HB.out)
  go_enter Tryd.func4, Tryd.ntmps4
  go_wp2_with fail
  refine (h1.out _).mono ?_
  rintro e w2 ⟨rfl, hb⟩
  have bd := Lib.hid (bd.out.next hb)
  have HB := Lib.hid (bel_next HB.out hb)
  clear hb
  have bd := Lib.hid (bd.out.more (.cells #[.int .i64 0, .int .i64 0, .int .i64 0, .int .i64 0, .int .i64 0, .int .i64 0, .int .i64 0, .int .i64 0, .int .i64 0, .int .i64 0, .int .i64 0, .int .i64 0, .nilFunc] 34))
  have HB := Lib.hid (kept_more (o := (.cells #[.int .i64 0, .int .i64 0, .int .i64 0, .int .i64 0, .int .i64 0, .int .i64 0, .int .i64 0, .int .i64 0, .int .i64 0, .int .i64 0, .int .i64 0, .int .i64 0, .nilFunc] 34)) HB.out)
  go_wp2_with fail
  go_ret2
  exact ⟨rfl, HB.out⟩

set_option maxRecDepth 100000 in
set_option maxHeartbeats 3200000 in
theorem format_bad (c y m d : Int) (w : World) (ha : isCal c) (hv : Hid (ok c y m d = false)) : Calls Tryd.prog 4 #[.int .i64 c, .agg #[.int .i64 y, .int .i64 m, .int .i64 d]] w fun e w' => e = .returned (.tuple #[.string ⟨#[]⟩, .int .i64 21]) ∧ Below w.heap.size w w' := by
  have h1 := Lib.hid (fun W => rulesOf_ok c W ha)
  clear ha
  have HB := Lib.hid (Below.refl w.heap.size w)
  have bd := Lib.hid (Bk.newAt w #[.int .i64 y, .int .i64 m, .int .i64 d] 23 (w.heap.size) (by simp))
  have HB := Lib.hid (kept_more (o := (.cells #[.int .i64 y, .int .i64 m, .int .i64 d] 23)) HB.out)
  go_enter Tryd.func4, Tryd.ntmps4
  go_wp2_with fail
  refine (h1.out _).mono ?_
  rintro e w2 ⟨r, rfl, hr, hb⟩
  obtain ⟨m0, m1, m2, m3, m4, m5, m6, m7, m8, m9, m10, m11, f, rfl⟩ := hr.form
  have Hr1 := Lib.hid hr
  clear hr
  have bd := Lib.hid (bd.out.next hb)
  have HB := Lib.hid (bel_next HB.out hb)
  clear hb
  have bd := Lib.hid (bd.out.more (.cells #[.int .i64 m0, .int .i64 m1, .int .i64 m2, .int .i64 m3, .int .i64 m4, .int .i64 m5, .int .i64 m6, .int .i64 m7, .int .i64 m8, .int .i64 m9, .int .i64 m10, .int .i64 m11, .func (.func f) #[] #[]] 34))
  have r1 := Lib.hid (Bk.newAt w2 #[.int .i64 m0, .int .i64 m1, .int .i64 m2, .int .i64 m3, .int .i64 m4, .int .i64 m5, .int .i64 m6, .int .i64 m7, .int .i64 m8, .int .i64 m9, .int .i64 m10, .int .i64 m11, .func (.func f) #[] #[]] 34 (w2.heap.size) (by simp))
  have HB := Lib.hid (kept_more (o := (.cells #[.int .i64 m0, .int .i64 m1, .int .i64 m2, .int .i64 m3, .int .i64 m4, .int .i64 m5, .int .i64 m6, .int .i64 m7, .int .i64 m8, .int .i64 m9, .int .i64 m10, .int .i64 m11, .func (.func f) #[] #[]] 34)) HB.out)
  have r1_c0 := r1.out.cell 0
  have r1_c1 := r1.out.cell 1
  have r1_c2 := r1.out.cell 2
  have r1_c3 := r1.out.cell 3
  have r1_c4 := r1.out.cell 4
  have r1_c5 := r1.out.cell 5
  have r1_c6 := r1.out.cell 6
  have r1_c7 := r1.out.cell 7
  have r1_c8 := r1.out.cell 8
  have r1_c9 := r1.out.cell 9
  have r1_c10 := r1.out.cell 10
  have r1_c11 := r1.out.cell 11
  have r1_c12 := r1.out.cell 12
  have bd_c0 := bd.out.cell 0
  have bd_c1 := bd.out.cell 1
  have bd_c2 := bd.out.cell 2
  have hv1 := Lib.hid (fun W => valid_any _ c y m d W Hr1.out)
  rw [hv.out] at hv1
  go_wp2_with fail
  refine (hv1.out _).mono ?_
  rintro e w3 ⟨rfl, hb⟩
  have bd := Lib.hid (bd.out.next hb)
  have r1 := Lib.hid (r1.out.next hb)
  have HB := Lib.hid (bel_next HB.out hb)
  clear r1_c0 r1_c1 r1_c2 r1_c3 r1_c4 r1_c5 r1_c6 r1_c7 r1_c8 r1_c9 r1_c10 r1_c11 r1_c12 bd_c0 bd_c1 bd_c2
  clear hb
  go_wp2_with fail
  go_ret2
  exact ⟨rfl, HB.out⟩

set_option maxRecDepth 100000 in
set_option maxHeartbeats 3200000 in
theorem format_pos (c y m d : Int) (t1 t2 t3 x1 x2 x3 x4 x5 : ByteArray) (w : World) (ha : isCal c) (hv : Hid (ok c y m d = true)) (hy : 0 ≤ y) (y1 : y ≤ 9999) (q1 : AddIs ⟨#[]⟩ t1 x1) (q2 : AddIs x1 ⟨#[45]⟩ x2) (q3 : AddIs x2 t2 x3) (q4 : AddIs x3 ⟨#[45]⟩ x4) (q5 : AddIs x4 t3 x5) (p2 : Hid (PadIs 11 w m 2 t2)) (p3 : Hid (PadIs 11 w d 2 t3)) (p1 : Hid (PadIs 11 w y 4 t1)) : Calls Tryd.prog 4 #[.int .i64 c, .agg #[.int .i64 y, .int .i64 m, .int .i64 d]] w fun e w' => e = .returned (.tuple #[.string x5, .int .i64 0]) ∧ Below w.heap.size w w' := by
  have h1 := Lib.hid (fun W => rulesOf_ok c W ha)
  clear ha
  unfold AddIs at q1 q2 q3 q4 q5
  have HB := Lib.hid (Below.refl w.heap.size w)
  have bd := Lib.hid (Bk.newAt w #[.int .i64 y, .int .i64 m, .int .i64 d] 23 (w.heap.size) (by simp))
  have HB := Lib.hid (kept_more (o := (.cells #[.int .i64 y, .int .i64 m, .int .i64 d] 23)) HB.out)
  go_enter Tryd.func4, Tryd.ntmps4
  go_wp2_with fail
  refine (h1.out _).mono ?_
  rintro e w2 ⟨r, rfl, hr, hb⟩
  obtain ⟨m0, m1, m2, m3, m4, m5, m6, m7, m8, m9, m10, m11, f, rfl⟩ := hr.form
  have Hr1 := Lib.hid hr
  clear hr
  have bd := Lib.hid (bd.out.next hb)
  have HB := Lib.hid (bel_next HB.out hb)
  clear hb
  have bd := Lib.hid (bd.out.more (.cells #[.int .i64 m0, .int .i64 m1, .int .i64 m2, .int .i64 m3, .int .i64 m4, .int .i64 m5, .int .i64 m6, .int .i64 m7, .int .i64 m8, .int .i64 m9, .int .i64 m10, .int .i64 m11, .func (.func f) #[] #[]] 34))
  have r1 := Lib.hid (Bk.newAt w2 #[.int .i64 m0, .int .i64 m1, .int .i64 m2, .int .i64 m3, .int .i64 m4, .int .i64 m5, .int .i64 m6, .int .i64 m7, .int .i64 m8, .int .i64 m9, .int .i64 m10, .int .i64 m11, .func (.func f) #[] #[]] 34 (w2.heap.size) (by simp))
  have HB := Lib.hid (kept_more (o := (.cells #[.int .i64 m0, .int .i64 m1, .int .i64 m2, .int .i64 m3, .int .i64 m4, .int .i64 m5, .int .i64 m6, .int .i64 m7, .int .i64 m8, .int .i64 m9, .int .i64 m10, .int .i64 m11, .func (.func f) #[] #[]] 34)) HB.out)
  have r1_c0 := r1.out.cell 0
  have r1_c1 := r1.out.cell 1
  have r1_c2 := r1.out.cell 2
  have r1_c3 := r1.out.cell 3
  have r1_c4 := r1.out.cell 4
  have r1_c5 := r1.out.cell 5
  have r1_c6 := r1.out.cell 6
  have r1_c7 := r1.out.cell 7
  have r1_c8 := r1.out.cell 8
  have r1_c9 := r1.out.cell 9
  have r1_c10 := r1.out.cell 10
  have r1_c11 := r1.out.cell 11
  have r1_c12 := r1.out.cell 12
  have bd_c0 := bd.out.cell 0
  have bd_c1 := bd.out.cell 1
  have bd_c2 := bd.out.cell 2
  have hv1 := Lib.hid (fun W => valid_any _ c y m d W Hr1.out)
  rw [hv.out] at hv1
  go_wp2_with fail
  refine (hv1.out _).mono ?_
  rintro e w3 ⟨rfl, hb⟩
  have bd := Lib.hid (bd.out.next hb)
  have r1 := Lib.hid (r1.out.next hb)
  have HB := Lib.hid (bel_next HB.out hb)
  clear r1_c0 r1_c1 r1_c2 r1_c3 r1_c4 r1_c5 r1_c6 r1_c7 r1_c8 r1_c9 r1_c10 r1_c11 r1_c12 bd_c0 bd_c1 bd_c2
  clear hb
  have bd_c0 := bd.out.cell 0
  have bd_c1 := bd.out.cell 1
  have bd_c2 := bd.out.cell 2
  go_wp2_with fail
  go_quiet (fail)
  go_wp2_with fail
  have hF := Lib.hid (show Fk w w.heap.size y m d (w3.drewN nq) from Fk.drewN ⟨HB.out, bd.out⟩ nq)
  clear bd_c0 bd_c1 bd_c2
  go_region_held3 (fun w' => Fk w w.heap.size y m d w' ∧ w'.cell? ⟨w.heap.size, 0, none⟩ = some (.int .i64 y) ∧ w'.cell? ⟨w.heap.size, 1, none⟩ = some (.int .i64 m) ∧ w'.cell? ⟨w.heap.size, 2, none⟩ = some (.int .i64 d))
    (first | exact Fk.all (Fk.drew hF.out) | exact Fk.all hF.out | (go_split_ands; exact Fk.all (Fk.next (by assumption) hb1)) | (go_split_ands; exact Fk.all (Fk.next (by assumption) hb2)) | (go_split_ands; exact Fk.all (Fk.next (by assumption) hb3)))
    (first | (go_at_call_of 11 y; go_split_ands; refine (p1.out _ (Fk.below (by assumption))).mono ?_; rintro e w5 ⟨rfl, hb1⟩) | (go_at_call_of 11 m; go_split_ands; refine (p2.out _ (Fk.below (by assumption))).mono ?_; rintro e w6 ⟨rfl, hb2⟩) | (go_at_call_of 11 d; go_split_ands; refine (p3.out _ (Fk.below (by assumption))).mono ?_; rintro e w7 ⟨rfl, hb3⟩; have hK := Lib.hid (Fk.next (by assumption) hb3)))
  go_wp2_with fail
  go_ret2
  exact ⟨rfl, hK.out.below⟩

set_option maxRecDepth 100000 in
set_option maxHeartbeats 3200000 in
theorem format_neg (c y m d : Int) (t1 t2 t3 x1 x2 x3 x4 x5 : ByteArray) (w : World) (ha : isCal c) (hv : Hid (ok c y m d = true)) (hy : y < 0) (y1 : -9999 ≤ y) (q1 : AddIs ⟨#[45]⟩ t1 x1) (q2 : AddIs x1 ⟨#[45]⟩ x2) (q3 : AddIs x2 t2 x3) (q4 : AddIs x3 ⟨#[45]⟩ x4) (q5 : AddIs x4 t3 x5) (p2 : Hid (PadIs 11 w m 2 t2)) (p3 : Hid (PadIs 11 w d 2 t3)) (p1 : Hid (PadIs 11 w (-y) 4 t1)) : Calls Tryd.prog 4 #[.int .i64 c, .agg #[.int .i64 y, .int .i64 m, .int .i64 d]] w fun e w' => e = .returned (.tuple #[.string x5, .int .i64 0]) ∧ Below w.heap.size w w' := by
  have h1 := Lib.hid (fun W => rulesOf_ok c W ha)
  clear ha
  unfold AddIs at q1 q2 q3 q4 q5
  have HB := Lib.hid (Below.refl w.heap.size w)
  have bd := Lib.hid (Bk.newAt w #[.int .i64 y, .int .i64 m, .int .i64 d] 23 (w.heap.size) (by simp))
  have HB := Lib.hid (kept_more (o := (.cells #[.int .i64 y, .int .i64 m, .int .i64 d] 23)) HB.out)
  go_enter Tryd.func4, Tryd.ntmps4
  go_wp2_with fail
  refine (h1.out _).mono ?_
  rintro e w2 ⟨r, rfl, hr, hb⟩
  obtain ⟨m0, m1, m2, m3, m4, m5, m6, m7, m8, m9, m10, m11, f, rfl⟩ := hr.form
  have Hr1 := Lib.hid hr
  clear hr
  have bd := Lib.hid (bd.out.next hb)
  have HB := Lib.hid (bel_next HB.out hb)
  clear hb
  have bd := Lib.hid (bd.out.more (.cells #[.int .i64 m0, .int .i64 m1, .int .i64 m2, .int .i64 m3, .int .i64 m4, .int .i64 m5, .int .i64 m6, .int .i64 m7, .int .i64 m8, .int .i64 m9, .int .i64 m10, .int .i64 m11, .func (.func f) #[] #[]] 34))
  have r1 := Lib.hid (Bk.newAt w2 #[.int .i64 m0, .int .i64 m1, .int .i64 m2, .int .i64 m3, .int .i64 m4, .int .i64 m5, .int .i64 m6, .int .i64 m7, .int .i64 m8, .int .i64 m9, .int .i64 m10, .int .i64 m11, .func (.func f) #[] #[]] 34 (w2.heap.size) (by simp))
  have HB := Lib.hid (kept_more (o := (.cells #[.int .i64 m0, .int .i64 m1, .int .i64 m2, .int .i64 m3, .int .i64 m4, .int .i64 m5, .int .i64 m6, .int .i64 m7, .int .i64 m8, .int .i64 m9, .int .i64 m10, .int .i64 m11, .func (.func f) #[] #[]] 34)) HB.out)
  have r1_c0 := r1.out.cell 0
  have r1_c1 := r1.out.cell 1
  have r1_c2 := r1.out.cell 2
  have r1_c3 := r1.out.cell 3
  have r1_c4 := r1.out.cell 4
  have r1_c5 := r1.out.cell 5
  have r1_c6 := r1.out.cell 6
  have r1_c7 := r1.out.cell 7
  have r1_c8 := r1.out.cell 8
  have r1_c9 := r1.out.cell 9
  have r1_c10 := r1.out.cell 10
  have r1_c11 := r1.out.cell 11
  have r1_c12 := r1.out.cell 12
  have bd_c0 := bd.out.cell 0
  have bd_c1 := bd.out.cell 1
  have bd_c2 := bd.out.cell 2
  have hv1 := Lib.hid (fun W => valid_any _ c y m d W Hr1.out)
  rw [hv.out] at hv1
  go_wp2_with fail
  refine (hv1.out _).mono ?_
  rintro e w3 ⟨rfl, hb⟩
  have bd := Lib.hid (bd.out.next hb)
  have r1 := Lib.hid (r1.out.next hb)
  have HB := Lib.hid (bel_next HB.out hb)
  clear r1_c0 r1_c1 r1_c2 r1_c3 r1_c4 r1_c5 r1_c6 r1_c7 r1_c8 r1_c9 r1_c10 r1_c11 r1_c12 bd_c0 bd_c1 bd_c2
  clear hb
  have bd_c0 := bd.out.cell 0
  have bd_c1 := bd.out.cell 1
  have bd_c2 := bd.out.cell 2
  go_wp2_with fail
  go_quiet (fail)
  go_wp2_with fail
  have hF := Lib.hid (show Fk w w.heap.size y m d (w3.drewN nq) from Fk.drewN ⟨HB.out, bd.out⟩ nq)
  clear bd_c0 bd_c1 bd_c2
  go_region_held3 (fun w' => Fk w w.heap.size y m d w' ∧ w'.cell? ⟨w.heap.size, 0, none⟩ = some (.int .i64 y) ∧ w'.cell? ⟨w.heap.size, 1, none⟩ = some (.int .i64 m) ∧ w'.cell? ⟨w.heap.size, 2, none⟩ = some (.int .i64 d))
    (first | exact Fk.all (Fk.drew hF.out) | exact Fk.all hF.out | (go_split_ands; exact Fk.all (Fk.next (by assumption) hb1)) | (go_split_ands; exact Fk.all (Fk.next (by assumption) hb2)) | (go_split_ands; exact Fk.all (Fk.next (by assumption) hb3)))
    (first | (go_at_call_of 11 y; go_split_ands; refine (p1.out _ (Fk.below (by assumption))).mono ?_; rintro e w5 ⟨rfl, hb1⟩) | (go_at_call_of 11 m; go_split_ands; refine (p2.out _ (Fk.below (by assumption))).mono ?_; rintro e w6 ⟨rfl, hb2⟩) | (go_at_call_of 11 d; go_split_ands; refine (p3.out _ (Fk.below (by assumption))).mono ?_; rintro e w7 ⟨rfl, hb3⟩; have hK := Lib.hid (Fk.next (by assumption) hb3)))
  go_wp2_with fail
  go_ret2
  exact ⟨rfl, hK.out.below⟩
end Go.Proofs.YthpeaeepcbbfcaaDoor
