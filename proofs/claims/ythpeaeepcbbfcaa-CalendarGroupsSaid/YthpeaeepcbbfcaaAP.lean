/- Map of the document, and that both Maps answer alike. -/
import Derived.Test.YthpeaeepcbbfcaaAK
import Derived.Test.YthpeaeepcbbfcaaAA
namespace Go.Proofs.Ythpeaeepcbbfcaa
open Go.RowKit

set_option maxRecDepth 100000 in
set_option maxHeartbeats 1600000 in
theorem rmap_n (a b y m d : Int) (w : World) (ha : ¬ isCal a) : Calls Try.prog 35 #[.int .i64 a, .int .i64 b, .agg #[.int .i64 y, .int .i64 m, .int .i64 d]] w fun z w' => z = .returned (.tuple #[.agg #[.int .i64 0, .int .i64 0, .int .i64 0], .int .i64 0, .int .i64 20]) ∧ Below w.heap.size w w' := by
  have h1 := Lib.hid (fun W => rname_no a W ha)
  clear ha
  have HB := Lib.hid (Below.refl w.heap.size w)
  have bd := Lib.hid (Bk.newAt w #[.int .i64 y, .int .i64 m, .int .i64 d] 28 (w.heap.size) (by simp))
  have HB := Lib.hid (kept_more (o := (.cells #[.int .i64 y, .int .i64 m, .int .i64 d] 28)) HB.out)
  have bd := Lib.hid (bd.out.more (.cells #[.int .i64 0, .int .i64 0, .int .i64 0] 28))
  have br := Lib.hid (Bk.newAt (w.alloc (.cells #[.int .i64 y, .int .i64 m, .int .i64 d] 28)) #[.int .i64 0, .int .i64 0, .int .i64 0] 28 (w.heap.size + 1) (by simp))
  have HB := Lib.hid (kept_more (o := (.cells #[.int .i64 0, .int .i64 0, .int .i64 0] 28)) HB.out)
  go_enter Try.func35, Try.ntmps35
  go_wp2_with fail
  refine (h1.out _).mono ?_
  rintro e w2 ⟨rfl, hb⟩
  have bd := Lib.hid (bd.out.next hb)
  have br := Lib.hid (br.out.next hb)
  have HB := Lib.hid (bel_next HB.out hb)
  clear hb
  have br_c0 := br.out.cell 0
  have br_f0 := br.out.free 0
  have br_c1 := br.out.cell 1
  have br_f1 := br.out.free 1
  have br_c2 := br.out.cell 2
  have br_f2 := br.out.free 2
  go_wp2_with fail
  refine bodyPost_ret (v := .tuple #[.agg #[.int .i64 0, .int .i64 0, .int .i64 0], .int .i64 0, .int .i64 20]) (by simp [results, Try.results35, go_sem, br_c0, br_c1, br_c2]) rfl ⟨rfl, ?_⟩
  exact ((HB.out.setCell (by show w.heap.size ≤ w.heap.size + 1; omega) _).setCell (by show w.heap.size ≤ w.heap.size + 1; omega) _).setCell (by show w.heap.size ≤ w.heap.size + 1; omega) _

set_option maxRecDepth 100000 in
set_option maxHeartbeats 1600000 in
theorem rmap_yn (a b y m d : Int) (w : World) (ha : isCal a) (hb0 : ¬ isCal b) : Calls Try.prog 35 #[.int .i64 a, .int .i64 b, .agg #[.int .i64 y, .int .i64 m, .int .i64 d]] w fun z w' => z = .returned (.tuple #[.agg #[.int .i64 0, .int .i64 0, .int .i64 0], .int .i64 0, .int .i64 20]) ∧ Below w.heap.size w w' := by
  obtain ⟨nm, hnm, hn'⟩ := rname_any a ha
  obtain ⟨e1, e2⟩ := hnm
  have h1 := Lib.hid hn'
  clear hn'
  have h2 := Lib.hid (fun W => rname_no b W hb0)
  clear hb0
  have HB := Lib.hid (Below.refl w.heap.size w)
  have bd := Lib.hid (Bk.newAt w #[.int .i64 y, .int .i64 m, .int .i64 d] 28 (w.heap.size) (by simp))
  have HB := Lib.hid (kept_more (o := (.cells #[.int .i64 y, .int .i64 m, .int .i64 d] 28)) HB.out)
  have bd := Lib.hid (bd.out.more (.cells #[.int .i64 0, .int .i64 0, .int .i64 0] 28))
  have br := Lib.hid (Bk.newAt (w.alloc (.cells #[.int .i64 y, .int .i64 m, .int .i64 d] 28)) #[.int .i64 0, .int .i64 0, .int .i64 0] 28 (w.heap.size + 1) (by simp))
  have HB := Lib.hid (kept_more (o := (.cells #[.int .i64 0, .int .i64 0, .int .i64 0] 28)) HB.out)
  go_enter Try.func35, Try.ntmps35
  go_wp2_with fail
  refine (h1.out _).mono ?_
  rintro e w2 ⟨rfl, hb⟩
  have bd := Lib.hid (bd.out.next hb)
  have br := Lib.hid (br.out.next hb)
  have HB := Lib.hid (bel_next HB.out hb)
  clear hb
  go_wp2_with fail
  refine (h2.out _).mono ?_
  rintro e w3 ⟨rfl, hb⟩
  have bd := Lib.hid (bd.out.next hb)
  have br := Lib.hid (br.out.next hb)
  have HB := Lib.hid (bel_next HB.out hb)
  clear hb
  have br_c0 := br.out.cell 0
  have br_f0 := br.out.free 0
  have br_c1 := br.out.cell 1
  have br_f1 := br.out.free 1
  have br_c2 := br.out.cell 2
  have br_f2 := br.out.free 2
  go_wp2_with fail
  refine bodyPost_ret (v := .tuple #[.agg #[.int .i64 0, .int .i64 0, .int .i64 0], .int .i64 0, .int .i64 20]) (by simp [results, Try.results35, go_sem, br_c0, br_c1, br_c2]) rfl ⟨rfl, ?_⟩
  exact ((HB.out.setCell (by show w.heap.size ≤ w.heap.size + 1; omega) _).setCell (by show w.heap.size ≤ w.heap.size + 1; omega) _).setCell (by show w.heap.size ≤ w.heap.size + 1; omega) _

set_option maxRecDepth 100000 in
set_option maxHeartbeats 1600000 in
theorem rmap_bad (a b y m d : Int) (w : World) (ha : isCal a) (hb0 : isCal b) (v1 : Hid (validV a y m d = false)) : Calls Try.prog 35 #[.int .i64 a, .int .i64 b, .agg #[.int .i64 y, .int .i64 m, .int .i64 d]] w fun z w' => z = .returned (.tuple #[.agg #[.int .i64 0, .int .i64 0, .int .i64 0], .int .i64 0, .int .i64 21]) ∧ Below w.heap.size w w' := by
  obtain ⟨nm, hnm, hn'⟩ := rname_any a ha
  obtain ⟨e1, e2⟩ := hnm
  have h1 := Lib.hid hn'
  clear hn'
  obtain ⟨nm2, hnm2, hn2'⟩ := rname_any b hb0
  obtain ⟨e3, e4⟩ := hnm2
  have h2 := Lib.hid hn2'
  clear hn2'
  have hv1 := Lib.hid (fun W => rValid_any a y m d W)
  rw [v1.out] at hv1
  have HB := Lib.hid (Below.refl w.heap.size w)
  have bd := Lib.hid (Bk.newAt w #[.int .i64 y, .int .i64 m, .int .i64 d] 28 (w.heap.size) (by simp))
  have HB := Lib.hid (kept_more (o := (.cells #[.int .i64 y, .int .i64 m, .int .i64 d] 28)) HB.out)
  have bd := Lib.hid (bd.out.more (.cells #[.int .i64 0, .int .i64 0, .int .i64 0] 28))
  have br := Lib.hid (Bk.newAt (w.alloc (.cells #[.int .i64 y, .int .i64 m, .int .i64 d] 28)) #[.int .i64 0, .int .i64 0, .int .i64 0] 28 (w.heap.size + 1) (by simp))
  have HB := Lib.hid (kept_more (o := (.cells #[.int .i64 0, .int .i64 0, .int .i64 0] 28)) HB.out)
  go_enter Try.func35, Try.ntmps35
  go_wp2_with fail
  refine (h1.out _).mono ?_
  rintro e w2 ⟨rfl, hb⟩
  have bd := Lib.hid (bd.out.next hb)
  have br := Lib.hid (br.out.next hb)
  have HB := Lib.hid (bel_next HB.out hb)
  clear hb
  go_wp2_with fail
  refine (h2.out _).mono ?_
  rintro e w3 ⟨rfl, hb⟩
  have bd := Lib.hid (bd.out.next hb)
  have br := Lib.hid (br.out.next hb)
  have HB := Lib.hid (bel_next HB.out hb)
  clear hb
  have bd_c0 := bd.out.cell 0
  have bd_c1 := bd.out.cell 1
  have bd_c2 := bd.out.cell 2
  go_wp2_with fail
  refine (hv1.out _).mono ?_
  rintro e w4 ⟨rfl, hb⟩
  have bd := Lib.hid (bd.out.next hb)
  have br := Lib.hid (br.out.next hb)
  have HB := Lib.hid (bel_next HB.out hb)
  clear bd_c0 bd_c1 bd_c2
  clear hb
  have br_c0 := br.out.cell 0
  have br_f0 := br.out.free 0
  have br_c1 := br.out.cell 1
  have br_f1 := br.out.free 1
  have br_c2 := br.out.cell 2
  have br_f2 := br.out.free 2
  go_wp2_with fail
  refine bodyPost_ret (v := .tuple #[.agg #[.int .i64 0, .int .i64 0, .int .i64 0], .int .i64 0, .int .i64 21]) (by simp [results, Try.results35, go_sem, br_c0, br_c1, br_c2]) rfl ⟨rfl, ?_⟩
  exact ((HB.out.setCell (by show w.heap.size ≤ w.heap.size + 1; omega) _).setCell (by show w.heap.size ≤ w.heap.size + 1; omega) _).setCell (by show w.heap.size ≤ w.heap.size + 1; omega) _

set_option maxRecDepth 100000 in
set_option maxHeartbeats 1600000 in
theorem rmap_miss (a b y m d : Int) (w : World) (ha : isCal a) (hb0 : isCal b) (v1 : Hid (validV a y m d = true)) (v2 : Hid (validV b y m d = false)) : Calls Try.prog 35 #[.int .i64 a, .int .i64 b, .agg #[.int .i64 y, .int .i64 m, .int .i64 d]] w fun z w' => z = .returned (.tuple #[.agg #[.int .i64 0, .int .i64 0, .int .i64 0], .int .i64 1, .int .i64 0]) ∧ Below w.heap.size w w' := by
  obtain ⟨nm, hnm, hn'⟩ := rname_any a ha
  obtain ⟨e1, e2⟩ := hnm
  have h1 := Lib.hid hn'
  clear hn'
  obtain ⟨nm2, hnm2, hn2'⟩ := rname_any b hb0
  obtain ⟨e3, e4⟩ := hnm2
  have h2 := Lib.hid hn2'
  clear hn2'
  have hv1 := Lib.hid (fun W => rValid_any a y m d W)
  rw [v1.out] at hv1
  have hv2 := Lib.hid (fun W => rValid_any b y m d W)
  rw [v2.out] at hv2
  have HB := Lib.hid (Below.refl w.heap.size w)
  have bd := Lib.hid (Bk.newAt w #[.int .i64 y, .int .i64 m, .int .i64 d] 28 (w.heap.size) (by simp))
  have HB := Lib.hid (kept_more (o := (.cells #[.int .i64 y, .int .i64 m, .int .i64 d] 28)) HB.out)
  have bd := Lib.hid (bd.out.more (.cells #[.int .i64 0, .int .i64 0, .int .i64 0] 28))
  have br := Lib.hid (Bk.newAt (w.alloc (.cells #[.int .i64 y, .int .i64 m, .int .i64 d] 28)) #[.int .i64 0, .int .i64 0, .int .i64 0] 28 (w.heap.size + 1) (by simp))
  have HB := Lib.hid (kept_more (o := (.cells #[.int .i64 0, .int .i64 0, .int .i64 0] 28)) HB.out)
  go_enter Try.func35, Try.ntmps35
  go_wp2_with fail
  refine (h1.out _).mono ?_
  rintro e w2 ⟨rfl, hb⟩
  have bd := Lib.hid (bd.out.next hb)
  have br := Lib.hid (br.out.next hb)
  have HB := Lib.hid (bel_next HB.out hb)
  clear hb
  go_wp2_with fail
  refine (h2.out _).mono ?_
  rintro e w3 ⟨rfl, hb⟩
  have bd := Lib.hid (bd.out.next hb)
  have br := Lib.hid (br.out.next hb)
  have HB := Lib.hid (bel_next HB.out hb)
  clear hb
  have bd_c0 := bd.out.cell 0
  have bd_c1 := bd.out.cell 1
  have bd_c2 := bd.out.cell 2
  go_wp2_with fail
  refine (hv1.out _).mono ?_
  rintro e w4 ⟨rfl, hb⟩
  have bd := Lib.hid (bd.out.next hb)
  have br := Lib.hid (br.out.next hb)
  have HB := Lib.hid (bel_next HB.out hb)
  clear bd_c0 bd_c1 bd_c2
  clear hb
  have bd_c0 := bd.out.cell 0
  have bd_c1 := bd.out.cell 1
  have bd_c2 := bd.out.cell 2
  go_wp2_with fail
  refine (hv2.out _).mono ?_
  rintro e w5 ⟨rfl, hb⟩
  have bd := Lib.hid (bd.out.next hb)
  have br := Lib.hid (br.out.next hb)
  have HB := Lib.hid (bel_next HB.out hb)
  clear bd_c0 bd_c1 bd_c2
  clear hb
  have br_c0 := br.out.cell 0
  have br_f0 := br.out.free 0
  have br_c1 := br.out.cell 1
  have br_f1 := br.out.free 1
  have br_c2 := br.out.cell 2
  have br_f2 := br.out.free 2
  go_wp2_with fail
  refine bodyPost_ret (v := .tuple #[.agg #[.int .i64 0, .int .i64 0, .int .i64 0], .int .i64 1, .int .i64 0]) (by simp [results, Try.results35, go_sem, br_c0, br_c1, br_c2]) rfl ⟨rfl, ?_⟩
  exact ((HB.out.setCell (by show w.heap.size ≤ w.heap.size + 1; omega) _).setCell (by show w.heap.size ≤ w.heap.size + 1; omega) _).setCell (by show w.heap.size ≤ w.heap.size + 1; omega) _

set_option maxRecDepth 100000 in
set_option maxHeartbeats 1600000 in
theorem rmap_ok (a b y m d : Int) (w : World) (ha : isCal a) (hb0 : isCal b) (v1 : Hid (validV a y m d = true)) (v2 : Hid (validV b y m d = true)) : Calls Try.prog 35 #[.int .i64 a, .int .i64 b, .agg #[.int .i64 y, .int .i64 m, .int .i64 d]] w fun z w' => z = .returned (.tuple #[.agg #[.int .i64 y, .int .i64 m, .int .i64 d], .int .i64 0, .int .i64 0]) ∧ Below w.heap.size w w' := by
  obtain ⟨nm, hnm, hn'⟩ := rname_any a ha
  obtain ⟨e1, e2⟩ := hnm
  have h1 := Lib.hid hn'
  clear hn'
  obtain ⟨nm2, hnm2, hn2'⟩ := rname_any b hb0
  obtain ⟨e3, e4⟩ := hnm2
  have h2 := Lib.hid hn2'
  clear hn2'
  have hv1 := Lib.hid (fun W => rValid_any a y m d W)
  rw [v1.out] at hv1
  have hv2 := Lib.hid (fun W => rValid_any b y m d W)
  rw [v2.out] at hv2
  have HB := Lib.hid (Below.refl w.heap.size w)
  have bd := Lib.hid (Bk.newAt w #[.int .i64 y, .int .i64 m, .int .i64 d] 28 (w.heap.size) (by simp))
  have HB := Lib.hid (kept_more (o := (.cells #[.int .i64 y, .int .i64 m, .int .i64 d] 28)) HB.out)
  have bd := Lib.hid (bd.out.more (.cells #[.int .i64 0, .int .i64 0, .int .i64 0] 28))
  have br := Lib.hid (Bk.newAt (w.alloc (.cells #[.int .i64 y, .int .i64 m, .int .i64 d] 28)) #[.int .i64 0, .int .i64 0, .int .i64 0] 28 (w.heap.size + 1) (by simp))
  have HB := Lib.hid (kept_more (o := (.cells #[.int .i64 0, .int .i64 0, .int .i64 0] 28)) HB.out)
  go_enter Try.func35, Try.ntmps35
  go_wp2_with fail
  refine (h1.out _).mono ?_
  rintro e w2 ⟨rfl, hb⟩
  have bd := Lib.hid (bd.out.next hb)
  have br := Lib.hid (br.out.next hb)
  have HB := Lib.hid (bel_next HB.out hb)
  clear hb
  go_wp2_with fail
  refine (h2.out _).mono ?_
  rintro e w3 ⟨rfl, hb⟩
  have bd := Lib.hid (bd.out.next hb)
  have br := Lib.hid (br.out.next hb)
  have HB := Lib.hid (bel_next HB.out hb)
  clear hb
  have bd_c0 := bd.out.cell 0
  have bd_c1 := bd.out.cell 1
  have bd_c2 := bd.out.cell 2
  go_wp2_with fail
  refine (hv1.out _).mono ?_
  rintro e w4 ⟨rfl, hb⟩
  have bd := Lib.hid (bd.out.next hb)
  have br := Lib.hid (br.out.next hb)
  have HB := Lib.hid (bel_next HB.out hb)
  clear bd_c0 bd_c1 bd_c2
  clear hb
  have bd_c0 := bd.out.cell 0
  have bd_c1 := bd.out.cell 1
  have bd_c2 := bd.out.cell 2
  go_wp2_with fail
  refine (hv2.out _).mono ?_
  rintro e w5 ⟨rfl, hb⟩
  have bd := Lib.hid (bd.out.next hb)
  have br := Lib.hid (br.out.next hb)
  have HB := Lib.hid (bel_next HB.out hb)
  clear bd_c0 bd_c1 bd_c2
  clear hb
  have bd_c0 := bd.out.cell 0
  have bd_c1 := bd.out.cell 1
  have bd_c2 := bd.out.cell 2
  have br_c0 := br.out.cell 0
  have br_f0 := br.out.free 0
  have br_c1 := br.out.cell 1
  have br_f1 := br.out.free 1
  have br_c2 := br.out.cell 2
  have br_f2 := br.out.free 2
  go_wp2_with fail
  refine bodyPost_ret (v := .tuple #[.agg #[.int .i64 y, .int .i64 m, .int .i64 d], .int .i64 0, .int .i64 0]) (by simp [results, Try.results35, go_sem, br_c0, br_c1, br_c2]) rfl ⟨rfl, ?_⟩
  exact ((HB.out.setCell (by show w.heap.size ≤ w.heap.size + 1; omega) _).setCell (by show w.heap.size ≤ w.heap.size + 1; omega) _).setCell (by show w.heap.size ≤ w.heap.size + 1; omega) _

theorem validV_eq {c y m d : Int} (h : isCal c) : validV c y m d = ok c y m d := by unfold validV; rw [decide_eq_true h, Bool.true_and]
/-- Both Maps answer alike; where nothing is lost Map leads back. -/
theorem map_pair (a b y m d : Int) : ((Hid (∀ W, Calls Try.prog 34 #[.int .i64 a, .int .i64 b, .agg #[.int .i64 y, .int .i64 m, .int .i64 d]] W fun zz w' => zz = .returned (.tuple #[.agg #[.int .i64 y, .int .i64 m, .int .i64 d], .int .i64 0, .int .i64 0]) ∧ Below W.heap.size W w') ∧ Hid (∀ W, Calls Try.prog 35 #[.int .i64 a, .int .i64 b, .agg #[.int .i64 y, .int .i64 m, .int .i64 d]] W fun zz w' => zz = .returned (.tuple #[.agg #[.int .i64 y, .int .i64 m, .int .i64 d], .int .i64 0, .int .i64 0]) ∧ Below W.heap.size W w')) ∧ Hid (∀ W, Calls Try.prog 34 #[.int .i64 b, .int .i64 a, .agg #[.int .i64 y, .int .i64 m, .int .i64 d]] W fun zz w' => zz = .returned (.tuple #[.agg #[.int .i64 y, .int .i64 m, .int .i64 d], .int .i64 0, .int .i64 0]) ∧ Below W.heap.size W w')) ∨ ∃ l e : Int, ((e == 0) = false ∨ (l == 0) = false) ∧ Hid (∀ W, Calls Try.prog 34 #[.int .i64 a, .int .i64 b, .agg #[.int .i64 y, .int .i64 m, .int .i64 d]] W fun zz w' => zz = .returned (.tuple #[.agg #[.int .i64 0, .int .i64 0, .int .i64 0], .int .i64 l, .int .i64 e]) ∧ Below W.heap.size W w') ∧ Hid (∀ W, Calls Try.prog 35 #[.int .i64 a, .int .i64 b, .agg #[.int .i64 y, .int .i64 m, .int .i64 d]] W fun zz w' => zz = .returned (.tuple #[.agg #[.int .i64 0, .int .i64 0, .int .i64 0], .int .i64 l, .int .i64 e]) ∧ Below W.heap.size W w') := by
  by_cases ha : isCal a
  · by_cases hb : isCal b
    · cases h1 : ok a y m d with
      | false => exact .inr ⟨0, 21, .inl (by decide), Lib.hid fun W => map_bad a b y m d W ha hb (Lib.hid h1), Lib.hid fun W => rmap_bad a b y m d W ha hb (Lib.hid ((validV_eq ha).trans h1))⟩
      | true =>
        cases h2 : ok b y m d with
        | false => exact .inr ⟨1, 0, .inr (by decide), Lib.hid fun W => map_miss a b y m d W ha hb (Lib.hid h1) (Lib.hid h2), Lib.hid fun W => rmap_miss a b y m d W ha hb (Lib.hid ((validV_eq ha).trans h1)) (Lib.hid ((validV_eq hb).trans h2))⟩
        | true => exact .inl ⟨⟨Lib.hid fun W => map_ok a b y m d W ha hb (Lib.hid h1) (Lib.hid h2), Lib.hid fun W => rmap_ok a b y m d W ha hb (Lib.hid ((validV_eq ha).trans h1)) (Lib.hid ((validV_eq hb).trans h2))⟩, Lib.hid fun W => map_ok b a y m d W hb ha (Lib.hid h2) (Lib.hid h1)⟩
    · exact .inr ⟨0, 20, .inl (by decide), Lib.hid fun W => map_yn a b y m d W ha hb, Lib.hid fun W => rmap_yn a b y m d W ha hb⟩
  · by_cases hb : isCal b
    · exact .inr ⟨0, 20, .inl (by decide), Lib.hid fun W => map_ny a b y m d W ha hb, Lib.hid fun W => rmap_n a b y m d W ha⟩
    · exact .inr ⟨0, 20, .inl (by decide), Lib.hid fun W => map_nn a b y m d W ha hb, Lib.hid fun W => rmap_n a b y m d W ha⟩
end Go.Proofs.Ythpeaeepcbbfcaa
