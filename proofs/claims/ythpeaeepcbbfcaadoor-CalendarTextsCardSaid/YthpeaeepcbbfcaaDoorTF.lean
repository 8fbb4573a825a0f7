/- The texts of dates: Parse. -/
import Derived.Test.YthpeaeepcbbfcaaDoorTE
namespace Go.Proofs.YthpeaeepcbbfcaaDoor
open Go.RowKit

set_option maxRecDepth 100000 in
set_option maxHeartbeats 3200000 in
theorem parse_nocal (c : Int) (s : ByteArray) (w : World) (ha : ¬ isCal c) : Calls Tryd.prog 6 #[.int .i64 c, .string s] w fun e w' => e = .returned (.tuple #[.agg #[.int .i64 0, .int .i64 0, .int .i64 0], .int .i64 20]) ∧ Below w.heap.size w w' := by
  have h1 := Lib.hid (fun W => rulesOf_no c W ha)
  clear ha
  have HB := Lib.hid (Below.refl w.heap.size w)
  have br := Lib.hid (Bk.newAt w #[.int .i64 0, .int .i64 0, .int .i64 0] 23 (w.heap.size) (by simp))
  have HB := Lib.hid (kept_more (o := (.cells #[.int .i64 0, .int .i64 0, .int .i64 0] 23)) HB.out)
  go_enter Tryd.func6, Tryd.ntmps6
  go_wp2_with fail
  refine (h1.out _).mono ?_
  rintro e w2 ⟨rfl, hb⟩
  have br := Lib.hid (br.out.next hb)
  have HB := Lib.hid (bel_next HB.out hb)
  clear hb
  have br := Lib.hid (br.out.more (.cells #[.int .i64 0, .int .i64 0, .int .i64 0, .int .i64 0, .int .i64 0, .int .i64 0, .int .i64 0, .int .i64 0, .int .i64 0, .int .i64 0, .int .i64 0, .int .i64 0, .nilFunc] 34))
  have HB := Lib.hid (kept_more (o := (.cells #[.int .i64 0, .int .i64 0, .int .i64 0, .int .i64 0, .int .i64 0, .int .i64 0, .int .i64 0, .int .i64 0, .int .i64 0, .int .i64 0, .int .i64 0, .int .i64 0, .nilFunc] 34)) HB.out)
  have br_c0 := br.out.cell 0
  have br_f0 := br.out.free 0
  have br_c1 := br.out.cell 1
  have br_f1 := br.out.free 1
  have br_c2 := br.out.cell 2
  have br_f2 := br.out.free 2
  go_wp2_with fail
  refine bodyPost_ret (v := .tuple #[.agg #[.int .i64 0, .int .i64 0, .int .i64 0], .int .i64 20]) (by simp [results, Tryd.results6, go_sem, br_c0, br_c1, br_c2]) rfl ⟨rfl, ?_⟩
  exact ((HB.out.setCell (Nat.le_refl _) _).setCell (Nat.le_refl _) _).setCell (Nat.le_refl _) _

set_option maxRecDepth 100000 in
set_option maxHeartbeats 3200000 in
theorem parse_no (c : Int) (s : ByteArray) (w : World) (ha : isCal c) (hrd : Hid (∀ W, Calls Tryd.prog 15 #[.string s] W (NoDate W))) : Calls Tryd.prog 6 #[.int .i64 c, .string s] w fun e w' => e = .returned (.tuple #[.agg #[.int .i64 0, .int .i64 0, .int .i64 0], .int .i64 3]) ∧ Below w.heap.size w w' := by
  have h1 := Lib.hid (fun W => rulesOf_ok c W ha)
  clear ha
  have HB := Lib.hid (Below.refl w.heap.size w)
  have br := Lib.hid (Bk.newAt w #[.int .i64 0, .int .i64 0, .int .i64 0] 23 (w.heap.size) (by simp))
  have HB := Lib.hid (kept_more (o := (.cells #[.int .i64 0, .int .i64 0, .int .i64 0] 23)) HB.out)
  go_enter Tryd.func6, Tryd.ntmps6
  go_wp2_with fail
  refine (h1.out _).mono ?_
  rintro e w2 ⟨r, rfl, hr, hb⟩
  obtain ⟨m0, m1, m2, m3, m4, m5, m6, m7, m8, m9, m10, m11, f, rfl⟩ := hr.form
  have Hr1 := Lib.hid hr
  clear hr
  have br := Lib.hid (br.out.next hb)
  have HB := Lib.hid (bel_next HB.out hb)
  clear hb
  have br := Lib.hid (br.out.more (.cells #[.int .i64 m0, .int .i64 m1, .int .i64 m2, .int .i64 m3, .int .i64 m4, .int .i64 m5, .int .i64 m6, .int .i64 m7, .int .i64 m8, .int .i64 m9, .int .i64 m10, .int .i64 m11, .func (.func f) #[] #[]] 34))
  have r1 := Lib.hid (Bk.newAt w2 #[.int .i64 m0, .int .i64 m1, .int .i64 m2, .int .i64 m3, .int .i64 m4, .int .i64 m5, .int .i64 m6, .int .i64 m7, .int .i64 m8, .int .i64 m9, .int .i64 m10, .int .i64 m11, .func (.func f) #[] #[]] 34 (w2.heap.size) (by simp))
  have HB := Lib.hid (kept_more (o := (.cells #[.int .i64 m0, .int .i64 m1, .int .i64 m2, .int .i64 m3, .int .i64 m4, .int .i64 m5, .int .i64 m6, .int .i64 m7, .int .i64 m8, .int .i64 m9, .int .i64 m10, .int .i64 m11, .func (.func f) #[] #[]] 34)) HB.out)
  go_wp2_with fail
  refine (hrd.out _).mono ?_
  rintro e w3 ⟨rfl, hb⟩
  have br := Lib.hid (br.out.next hb)
  have r1 := Lib.hid (r1.out.next hb)
  have HB := Lib.hid (bel_next HB.out hb)
  clear hb
  have br := Lib.hid (br.out.more (.cells #[.int .i64 0, .int .i64 0, .int .i64 0] 23))
  have r1 := Lib.hid (r1.out.more (.cells #[.int .i64 0, .int .i64 0, .int .i64 0] 23))
  have bd := Lib.hid (Bk.newAt w3 #[.int .i64 0, .int .i64 0, .int .i64 0] 23 (w3.heap.size) (by simp))
  have HB := Lib.hid (kept_more (o := (.cells #[.int .i64 0, .int .i64 0, .int .i64 0] 23)) HB.out)
  have br_c0 := br.out.cell 0
  have br_f0 := br.out.free 0
  have br_c1 := br.out.cell 1
  have br_f1 := br.out.free 1
  have br_c2 := br.out.cell 2
  have br_f2 := br.out.free 2
  go_wp2_with fail
  refine bodyPost_ret (v := .tuple #[.agg #[.int .i64 0, .int .i64 0, .int .i64 0], .int .i64 3]) (by simp [results, Tryd.results6, go_sem, br_c0, br_c1, br_c2]) rfl ⟨rfl, ?_⟩
  exact ((HB.out.setCell (Nat.le_refl _) _).setCell (Nat.le_refl _) _).setCell (Nat.le_refl _) _

set_option maxRecDepth 100000 in
set_option maxHeartbeats 3200000 in
theorem parse_bad (c : Int) (s : ByteArray) (y m d : Int) (w : World) (ha : isCal c) (hrd : Hid (∀ W, Calls Tryd.prog 15 #[.string s] W fun e w' => e = .returned (.tuple #[.agg #[.int .i64 y, .int .i64 m, .int .i64 d], .bool true]) ∧ Below W.heap.size W w')) (hv : Hid (ok c y m d = false)) : Calls Tryd.prog 6 #[.int .i64 c, .string s] w fun e w' => e = .returned (.tuple #[.agg #[.int .i64 0, .int .i64 0, .int .i64 0], .int .i64 21]) ∧ Below w.heap.size w w' := by
  have h1 := Lib.hid (fun W => rulesOf_ok c W ha)
  clear ha
  have HB := Lib.hid (Below.refl w.heap.size w)
  have br := Lib.hid (Bk.newAt w #[.int .i64 0, .int .i64 0, .int .i64 0] 23 (w.heap.size) (by simp))
  have HB := Lib.hid (kept_more (o := (.cells #[.int .i64 0, .int .i64 0, .int .i64 0] 23)) HB.out)
  go_enter Tryd.func6, Tryd.ntmps6
  go_wp2_with fail
  refine (h1.out _).mono ?_
  rintro e w2 ⟨r, rfl, hr, hb⟩
  obtain ⟨m0, m1, m2, m3, m4, m5, m6, m7, m8, m9, m10, m11, f, rfl⟩ := hr.form
  have Hr1 := Lib.hid hr
  clear hr
  have br := Lib.hid (br.out.next hb)
  have HB := Lib.hid (bel_next HB.out hb)
  clear hb
  have br := Lib.hid (br.out.more (.cells #[.int .i64 m0, .int .i64 m1, .int .i64 m2, .int .i64 m3, .int .i64 m4, .int .i64 m5, .int .i64 m6, .int .i64 m7, .int .i64 m8, .int .i64 m9, .int .i64 m10, .int .i64 m11, .func (.func f) #[] #[]] 34))
  have r1 := Lib.hid (Bk.newAt w2 #[.int .i64 m0, .int .i64 m1, .int .i64 m2, .int .i64 m3, .int .i64 m4, .int .i64 m5, .int .i64 m6, .int .i64 m7, .int .i64 m8, .int .i64 m9, .int .i64 m10, .int .i64 m11, .func (.func f) #[] #[]] 34 (w2.heap.size) (by simp))
  have HB := Lib.hid (kept_more (o := (.cells #[.int .i64 m0, .int .i64 m1, .int .i64 m2, .int .i64 m3, .int .i64 m4, .int .i64 m5, .int .i64 m6, .int .i64 m7, .int .i64 m8, .int .i64 m9, .int .i64 m10, .int .i64 m11, .func (.func f) #[] #[]] 34)) HB.out)
  go_wp2_with fail
  refine (hrd.out _).mono ?_
  rintro e w3 ⟨rfl, hb⟩
  have br := Lib.hid (br.out.next hb)
  have r1 := Lib.hid (r1.out.next hb)
  have HB := Lib.hid (bel_next HB.out hb)
  clear hb
  have br := Lib.hid (br.out.more (.cells #[.int .i64 y, .int .i64 m, .int .i64 d] 23))
  have r1 := Lib.hid (r1.out.more (.cells #[.int .i64 y, .int .i64 m, .int .i64 d] 23))
  have bd := Lib.hid (Bk.newAt w3 #[.int .i64 y, .int .i64 m, .int .i64 d] 23 (w3.heap.size) (by simp))
  have HB := Lib.hid (kept_more (o := (.cells #[.int .i64 y, .int .i64 m, .int .i64 d] 23)) HB.out)
  have r1_c0 := r1.out.cell 0
  have r1_c1 := r1.out.cell 1
  have r1_c2 := r1.out.cell 2
  have r1_c3 := r1.out.cell 3
  have r1_c4 := r1.out.cell 4
  have r1_c5 := r1.out.cell 5
  have r1_c6 := r1.out.cell 6
  have r1_c7 := r1.out.cell 7
  have r1_c8 := r1.out.cell 8
  have r1_c9 := r1.out.cell 9
  have r1_c10 := r1.out.cell 10
  have r1_c11 := r1.out.cell 11
  have r1_c12 := r1.out.cell 12
  have bd_c0 := bd.out.cell 0
  have bd_c1 := bd.out.cell 1
  have bd_c2 := bd.out.cell 2
  have hv1 := Lib.hid (fun W => valid_any _ c y m d W Hr1.out)
  rw [hv.out] at hv1
  go_wp2_with fail
  refine (hv1.out _).mono ?_
  rintro e w4 ⟨rfl, hb⟩
  have br := Lib.hid (br.out.next hb)
  have r1 := Lib.hid (r1.out.next hb)
  have bd := Lib.hid (bd.out.next hb)
  have HB := Lib.hid (bel_next HB.out hb)
  clear r1_c0 r1_c1 r1_c2 r1_c3 r1_c4 r1_c5 r1_c6 r1_c7 r1_c8 r1_c9 r1_c10 r1_c11 r1_c12 bd_c0 bd_c1 bd_c2
  clear hb
  have br_c0 := br.out.cell 0
  have br_f0 := br.out.free 0
  have br_c1 := br.out.cell 1
  have br_f1 := br.out.free 1
  have br_c2 := br.out.cell 2
  have br_f2 := br.out.free 2
  go_wp2_with fail
  refine bodyPost_ret (v := .tuple #[.agg #[.int .i64 0, .int .i64 0, .int .i64 0], .int .i64 21]) (by simp [results, Tryd.results6, go_sem, br_c0, br_c1, br_c2]) rfl ⟨rfl, ?_⟩
  exact ((HB.out.setCell (Nat.le_refl _) _).setCell (Nat.le_refl _) _).setCell (Nat.le_refl _) _

set_option maxRecDepth 100000 in
set_option maxHeartbeats 3200000 in
theorem parse_ok (c : Int) (s : ByteArray) (y m d : Int) (w : World) (ha : isCal c) (hrd : Hid (∀ W, Calls Tryd.prog 15 #[.string s] W fun e w' => e = .returned (.tuple #[.agg #[.int .i64 y, .int .i64 m, .int .i64 d], .bool true]) ∧ Below W.heap.size W w')) (hv : Hid (ok c y m d = true)) : Calls Tryd.prog 6 #[.int .i64 c, .string s] w fun e w' => e = .returned (.tuple #[.agg #[.int .i64 y, .int .i64 m, .int .i64 d], .int .i64 0]) ∧ Below w.heap.size w w' := by
  have h1 := Lib.hid (fun W => rulesOf_ok c W ha)
  clear ha
  have HB := Lib.hid (Below.refl w.heap.size w)
  have br := Lib.hid (Bk.newAt w #[.int .i64 0, .int .i64 0, .int .i64 0] 23 (w.heap.size) (by simp))
  have HB := Lib.hid (kept_more (o := (.cells #[.int .i64 0, .int .i64 0, .int .i64 0] 23)) HB.out)
  go_enter Tryd.func6, Tryd.ntmps6
  go_wp2_with fail
  refine (h1.out _).mono ?_
  rintro e w2 ⟨r, rfl, hr, hb⟩
  obtain ⟨m0, m1, m2, m3, m4, m5, m6, m7, m8, m9, m10, m11, f, rfl⟩ := hr.form
  have Hr1 := Lib.hid hr
  clear hr
  have br := Lib.hid (br.out.next hb)
  have HB := Lib.hid (bel_next HB.out hb)
  clear hb
  have br := Lib.hid (br.out.more (.cells #[.int .i64 m0, .int .i64 m1, .int .i64 m2, .int .i64 m3, .int .i64 m4, .int .i64 m5, .int .i64 m6, .int .i64 m7, .int .i64 m8, .int .i64 m9, .int .i64 m10, .int .i64 m11, .func (.func f) #[] #[]] 34))
  have r1 := Lib.hid (Bk.newAt w2 #[.int .i64 m0, .int .i64 m1, .int .i64 m2, .int .i64 m3, .int .i64 m4, .int .i64 m5, .int .i64 m6, .int .i64 m7, .int .i64 m8, .int .i64 m9, .int .i64 m10, .int .i64 m11, .func (.func f) #[] #[]] 34 (w2.heap.size) (by simp))
  have HB := Lib.hid (kept_more (o := (.cells #[.int .i64 m0, .int .i64 m1, .int .i64 m2, .int .i64 m3, .int .i64 m4, .int .i64 m5, .int .i64 m6, .int .i64 m7, .int .i64 m8, .int .i64 m9, .int .i64 m10, .int .i64 m11, .func (.func f) #[] #[]] 34)) HB.out)
  go_wp2_with fail
  refine (hrd.out _).mono ?_
  rintro e w3 ⟨rfl, hb⟩
  have br := Lib.hid (br.out.next hb)
  have r1 := Lib.hid (r1.out.next hb)
  have HB := Lib.hid (bel_next HB.out hb)
  clear hb
  have br := Lib.hid (br.out.more (.cells #[.int .i64 y, .int .i64 m, .int .i64 d] 23))
  have r1 := Lib.hid (r1.out.more (.cells #[.int .i64 y, .int .i64 m, .int .i64 d] 23))
  have bd := Lib.hid (Bk.newAt w3 #[.int .i64 y, .int .i64 m, .int .i64 d] 23 (w3.heap.size) (by simp))
  have HB := Lib.hid (kept_more (o := (.cells #[.int .i64 y, .int .i64 m, .int .i64 d] 23)) HB.out)
  have r1_c0 := r1.out.cell 0
  have r1_c1 := r1.out.cell 1
  have r1_c2 := r1.out.cell 2
  have r1_c3 := r1.out.cell 3
  have r1_c4 := r1.out.cell 4
  have r1_c5 := r1.out.cell 5
  have r1_c6 := r1.out.cell 6
  have r1_c7 := r1.out.cell 7
  have r1_c8 := r1.out.cell 8
  have r1_c9 := r1.out.cell 9
  have r1_c10 := r1.out.cell 10
  have r1_c11 := r1.out.cell 11
  have r1_c12 := r1.out.cell 12
  have bd_c0 := bd.out.cell 0
  have bd_c1 := bd.out.cell 1
  have bd_c2 := bd.out.cell 2
  have hv1 := Lib.hid (fun W => valid_any _ c y m d W Hr1.out)
  rw [hv.out] at hv1
  go_wp2_with fail
  refine (hv1.out _).mono ?_
  rintro e w4 ⟨rfl, hb⟩
  have br := Lib.hid (br.out.next hb)
  have r1 := Lib.hid (r1.out.next hb)
  have bd := Lib.hid (bd.out.next hb)
  have HB := Lib.hid (bel_next HB.out hb)
  clear r1_c0 r1_c1 r1_c2 r1_c3 r1_c4 r1_c5 r1_c6 r1_c7 r1_c8 r1_c9 r1_c10 r1_c11 r1_c12 bd_c0 bd_c1 bd_c2
  clear hb
  have bd_c0 := bd.out.cell 0
  have bd_c1 := bd.out.cell 1
  have bd_c2 := bd.out.cell 2
  have br_c0 := br.out.cell 0
  have br_f0 := br.out.free 0
  have br_c1 := br.out.cell 1
  have br_f1 := br.out.free 1
  have br_c2 := br.out.cell 2
  have br_f2 := br.out.free 2
  go_wp2_with fail
  refine bodyPost_ret (v := .tuple #[.agg #[.int .i64 y, .int .i64 m, .int .i64 d], .int .i64 0]) (by simp [results, Tryd.results6, go_sem, br_c0, br_c1, br_c2]) rfl ⟨rfl, ?_⟩
  exact ((HB.out.setCell (Nat.le_refl _) _).setCell (Nat.le_refl _) _).setCell (Nat.le_refl _) _
end Go.Proofs.YthpeaeepcbbfcaaDoor
