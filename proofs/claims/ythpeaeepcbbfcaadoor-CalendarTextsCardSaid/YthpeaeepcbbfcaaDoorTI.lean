/- The texts of dates: the document's text, Format. -/
import Derived.Test.YthpeaeepcbbfcaaDoorTH
import Derived.Test.YthpeaeepcbbfcaaDoorAF
namespace Go.Proofs.YthpeaeepcbbfcaaDoor
open Go.RowKit

theorem last4 (n : Nat) : lastL n 4 = dig4 n := by simp [lastL, dig4]
theorem last2 (n : Nat) : lastL n 2 = dig2 n := by simp [lastL, dig2]

set_option maxRecDepth 100000 in
set_option maxHeartbeats 3200000 in
theorem rtext_pos (y m d : Int) (t1 t2 t3 x1 x2 x3 x4 x5 : ByteArray) (w : World) (hy : 0 ≤ y) (y1 : y ≤ 9999) (q1 : AddIs ⟨#[]⟩ t1 x1) (q2 : AddIs x1 ⟨#[45]⟩ x2) (q3 : AddIs x2 t2 x3) (q4 : AddIs x3 ⟨#[45]⟩ x4) (q5 : AddIs x4 t3 x5) (p2 : Hid (PadIs 30 w m 2 t2)) (p3 : Hid (PadIs 30 w d 2 t3)) (p1 : Hid (PadIs 30 w y 4 t1)) : Calls Tryd.prog 14 #[.agg #[.int .i64 y, .int .i64 m, .int .i64 d]] w fun e w' => e = .returned (.string x5) ∧ Below w.heap.size w w' := by
  unfold AddIs at q1 q2 q3 q4 q5
  have HB := Lib.hid (Below.refl w.heap.size w)
  have bd := Lib.hid (Bk.newAt w #[.int .i64 y, .int .i64 m, .int .i64 d] 23 (w.heap.size) (by simp))
  have HB := Lib.hid (kept_more (o := (.cells #[.int .i64 y, .int .i64 m, .int .i64 d] 23)) HB.out)
  go_enter Tryd.func14, Tryd.ntmps14
  have bd_c0 := bd.out.cell 0
  have bd_c1 := bd.out.cell 1
  have bd_c2 := bd.out.cell 2
  go_wp2_with fail
  have hF := Lib.hid (show Fk w w.heap.size y m d (w.alloc (.cells #[.int .i64 y, .int .i64 m, .int .i64 d] 23)) from ⟨HB.out, bd.out⟩)
  clear bd_c0 bd_c1 bd_c2
  go_region_held3 (fun w' => Fk w w.heap.size y m d w' ∧ w'.cell? ⟨w.heap.size, 0, none⟩ = some (.int .i64 y) ∧ w'.cell? ⟨w.heap.size, 1, none⟩ = some (.int .i64 m) ∧ w'.cell? ⟨w.heap.size, 2, none⟩ = some (.int .i64 d))
    (first | exact Fk.all (Fk.drew hF.out) | exact Fk.all hF.out | (go_split_ands; exact Fk.all (Fk.next (by assumption) hb1)) | (go_split_ands; exact Fk.all (Fk.next (by assumption) hb2)) | (go_split_ands; exact Fk.all (Fk.next (by assumption) hb3)))
    (first | (go_at_call_of 30 y; go_split_ands; refine (p1.out _ (Fk.below (by assumption))).mono ?_; rintro e w5 ⟨rfl, hb1⟩) | (go_at_call_of 30 m; go_split_ands; refine (p2.out _ (Fk.below (by assumption))).mono ?_; rintro e w6 ⟨rfl, hb2⟩) | (go_at_call_of 30 d; go_split_ands; refine (p3.out _ (Fk.below (by assumption))).mono ?_; rintro e w7 ⟨rfl, hb3⟩; have hK := Lib.hid (Fk.next (by assumption) hb3)))
  go_wp2_with fail
  go_ret
  exact ⟨rfl, hK.out.below⟩

set_option maxRecDepth 100000 in
set_option maxHeartbeats 3200000 in
theorem rtext_neg (y m d : Int) (t1 t2 t3 x1 x2 x3 x4 x5 : ByteArray) (w : World) (hy : y < 0) (y1 : -9999 ≤ y) (q1 : AddIs ⟨#[45]⟩ t1 x1) (q2 : AddIs x1 ⟨#[45]⟩ x2) (q3 : AddIs x2 t2 x3) (q4 : AddIs x3 ⟨#[45]⟩ x4) (q5 : AddIs x4 t3 x5) (p2 : Hid (PadIs 30 w m 2 t2)) (p3 : Hid (PadIs 30 w d 2 t3)) (p1 : Hid (PadIs 30 w (-y) 4 t1)) : Calls Tryd.prog 14 #[.agg #[.int .i64 y, .int .i64 m, .int .i64 d]] w fun e w' => e = .returned (.string x5) ∧ Below w.heap.size w w' := by
  unfold AddIs at q1 q2 q3 q4 q5
  have HB := Lib.hid (Below.refl w.heap.size w)
  have bd := Lib.hid (Bk.newAt w #[.int .i64 y, .int .i64 m, .int .i64 d] 23 (w.heap.size) (by simp))
  have HB := Lib.hid (kept_more (o := (.cells #[.int .i64 y, .int .i64 m, .int .i64 d] 23)) HB.out)
  go_enter Tryd.func14, Tryd.ntmps14
  have bd_c0 := bd.out.cell 0
  have bd_c1 := bd.out.cell 1
  have bd_c2 := bd.out.cell 2
  go_wp2_with fail
  have hF := Lib.hid (show Fk w w.heap.size y m d (w.alloc (.cells #[.int .i64 y, .int .i64 m, .int .i64 d] 23)) from ⟨HB.out, bd.out⟩)
  clear bd_c0 bd_c1 bd_c2
  go_region_held3 (fun w' => Fk w w.heap.size y m d w' ∧ w'.cell? ⟨w.heap.size, 0, none⟩ = some (.int .i64 y) ∧ w'.cell? ⟨w.heap.size, 1, none⟩ = some (.int .i64 m) ∧ w'.cell? ⟨w.heap.size, 2, none⟩ = some (.int .i64 d))
    (first | exact Fk.all (Fk.drew hF.out) | exact Fk.all hF.out | (go_split_ands; exact Fk.all (Fk.next (by assumption) hb1)) | (go_split_ands; exact Fk.all (Fk.next (by assumption) hb2)) | (go_split_ands; exact Fk.all (Fk.next (by assumption) hb3)))
    (first | (go_at_call_of 30 y; go_split_ands; refine (p1.out _ (Fk.below (by assumption))).mono ?_; rintro e w5 ⟨rfl, hb1⟩) | (go_at_call_of 30 m; go_split_ands; refine (p2.out _ (Fk.below (by assumption))).mono ?_; rintro e w6 ⟨rfl, hb2⟩) | (go_at_call_of 30 d; go_split_ands; refine (p3.out _ (Fk.below (by assumption))).mono ?_; rintro e w7 ⟨rfl, hb3⟩; have hK := Lib.hid (Fk.next (by assumption) hb3)))
  go_wp2_with fail
  go_ret
  exact ⟨rfl, hK.out.below⟩

set_option maxRecDepth 100000 in
set_option maxHeartbeats 3200000 in
theorem rformat_nocal (c y m d : Int) (w : World) (ha : ¬ isCal c) : Calls Tryd.prog 5 #[.int .i64 c, .agg #[.int .i64 y, .int .i64 m, .int .i64 d]] w fun e w' => e = .returned (.tuple #[.string ⟨#[]⟩, .int .i64 20]) ∧ Below w.heap.size w w' := by
  have h1 := Lib.hid (fun W => rname_no c W ha)
  clear ha
  have HB := Lib.hid (Below.refl w.heap.size w)
  have bd := Lib.hid (Bk.newAt w #[.int .i64 y, .int .i64 m, .int .i64 d] 23 (w.heap.size) (by simp))
  have HB := Lib.hid (kept_more (o := (.cells #[.int .i64 y, .int .i64 m, .int .i64 d] 23)) HB.out)
  go_enter Tryd.func5, Tryd.ntmps5
  go_wp2_with fail
  refine (h1.out _).mono ?_
  rintro e w2 ⟨rfl, hb⟩
  have bd := Lib.hid (bd.out.next hb)
  have HB := Lib.hid (bel_next HB.out hb)
  clear hb
  go_wp2_with fail
  go_ret2
  exact ⟨rfl, HB.out⟩

set_option maxRecDepth 100000 in
set_option maxHeartbeats 3200000 in
theorem rformat_bad (c y m d : Int) (w : World) (ha : isCal c) (hv : Hid (validV c y m d = false)) : Calls Tryd.prog 5 #[.int .i64 c, .agg #[.int .i64 y, .int .i64 m, .int .i64 d]] w fun e w' => e = .returned (.tuple #[.string ⟨#[]⟩, .int .i64 21]) ∧ Below w.heap.size w w' := by
  obtain ⟨nm, hnm, hn'⟩ := rname_any c ha
  obtain ⟨e1, e2⟩ := hnm
  have h1 := Lib.hid hn'
  clear hn' ha
  have HB := Lib.hid (Below.refl w.heap.size w)
  have bd := Lib.hid (Bk.newAt w #[.int .i64 y, .int .i64 m, .int .i64 d] 23 (w.heap.size) (by simp))
  have HB := Lib.hid (kept_more (o := (.cells #[.int .i64 y, .int .i64 m, .int .i64 d] 23)) HB.out)
  go_enter Tryd.func5, Tryd.ntmps5
  go_wp2_with fail
  refine (h1.out _).mono ?_
  rintro e w2 ⟨rfl, hb⟩
  have bd := Lib.hid (bd.out.next hb)
  have HB := Lib.hid (bel_next HB.out hb)
  clear hb
  have bd_c0 := bd.out.cell 0
  have bd_c1 := bd.out.cell 1
  have bd_c2 := bd.out.cell 2
  have hv1 := Lib.hid (fun W => rValid_any c y m d W)
  rw [hv.out] at hv1
  go_wp2_with fail
  refine (hv1.out _).mono ?_
  rintro e w3 ⟨rfl, hb⟩
  have bd := Lib.hid (bd.out.next hb)
  have HB := Lib.hid (bel_next HB.out hb)
  clear bd_c0 bd_c1 bd_c2
  clear hb
  go_wp2_with fail
  go_ret2
  exact ⟨rfl, HB.out⟩

set_option maxRecDepth 100000 in
set_option maxHeartbeats 3200000 in
theorem rformat_ok (c y m d : Int) (x : ByteArray) (w : World) (ha : isCal c) (hv : Hid (validV c y m d = true)) (htx : Hid (∀ W, Below w.heap.size w W → Calls Tryd.prog 14 #[.agg #[.int .i64 y, .int .i64 m, .int .i64 d]] W fun e w' => e = .returned (.string x) ∧ Below W.heap.size W w')) : Calls Tryd.prog 5 #[.int .i64 c, .agg #[.int .i64 y, .int .i64 m, .int .i64 d]] w fun e w' => e = .returned (.tuple #[.string x, .int .i64 0]) ∧ Below w.heap.size w w' := by
  obtain ⟨nm, hnm, hn'⟩ := rname_any c ha
  obtain ⟨e1, e2⟩ := hnm
  have h1 := Lib.hid hn'
  clear hn' ha
  have HB := Lib.hid (Below.refl w.heap.size w)
  have bd := Lib.hid (Bk.newAt w #[.int .i64 y, .int .i64 m, .int .i64 d] 23 (w.heap.size) (by simp))
  have HB := Lib.hid (kept_more (o := (.cells #[.int .i64 y, .int .i64 m, .int .i64 d] 23)) HB.out)
  go_enter Tryd.func5, Tryd.ntmps5
  go_wp2_with fail
  refine (h1.out _).mono ?_
  rintro e w2 ⟨rfl, hb⟩
  have bd := Lib.hid (bd.out.next hb)
  have HB := Lib.hid (bel_next HB.out hb)
  clear hb
  have bd_c0 := bd.out.cell 0
  have bd_c1 := bd.out.cell 1
  have bd_c2 := bd.out.cell 2
  have hv1 := Lib.hid (fun W => rValid_any c y m d W)
  rw [hv.out] at hv1
  go_wp2_with fail
  refine (hv1.out _).mono ?_
  rintro e w3 ⟨rfl, hb⟩
  have bd := Lib.hid (bd.out.next hb)
  have HB := Lib.hid (bel_next HB.out hb)
  clear bd_c0 bd_c1 bd_c2
  clear hb
  have bd_c0 := bd.out.cell 0
  have bd_c1 := bd.out.cell 1
  have bd_c2 := bd.out.cell 2
  go_wp2_with fail
  refine (htx.out _ HB.out).mono ?_
  rintro e w4 ⟨rfl, hb⟩
  have bd := Lib.hid (bd.out.next hb)
  have HB := Lib.hid (bel_next HB.out hb)
  clear bd_c0 bd_c1 bd_c2
  clear hb
  go_wp2_with fail
  go_ret2
  exact ⟨rfl, HB.out⟩
end Go.Proofs.YthpeaeepcbbfcaaDoor
