/- Field and Key of the document; the law CalendarFields. -/
import Derived.Test.YthpeaeepcbbfcaaAI
import Derived.Test.YthpeaeepcbbfcaaX
namespace Go.Proofs.Ythpeaeepcbbfcaa
open Go.RowKit

theorem season_any (m : Int) (w : World) (m0 : 1 ≤ m) (m1 : m ≤ 12) : Calls Try.prog 66 #[.int .i64 m] w fun e w' => e = .returned (.int .i64 (m % 12 / 3 + 1)) ∧ w = w' := by
  go_enter Try.func66, Try.ntmps66
  go_wp2_with fail
  go_ret
  exact ⟨rfl, rfl⟩

set_option maxRecDepth 100000 in
set_option maxHeartbeats 1600000 in
theorem asked_nocal (c n x : Int) (w : World) (h : ¬ isCal c) : Calls Try.prog 65 #[.int .i64 c, .int .i64 n, .int .i64 x] w fun e w' => e = .returned (.tuple #[.agg #[.int .i64 0, .int .i64 0, .int .i64 0], .int .i64 20]) ∧ Below w.heap.size w w' := by
  have hn := Lib.hid (fun W => rname_no c W h)
  clear h
  have HB := Lib.hid (Below.refl w.heap.size w)
  have br := Lib.hid (Bk.newAt w #[.int .i64 0, .int .i64 0, .int .i64 0] 28 (w.heap.size) (by simp))
  have HB := Lib.hid (kept_more (o := (.cells #[.int .i64 0, .int .i64 0, .int .i64 0] 28)) HB.out)
  go_enter Try.func65, Try.ntmps65
  go_wp2_with fail
  refine (hn.out _).mono ?_
  rintro e w2 ⟨rfl, hb⟩
  have br := Lib.hid (br.out.next hb)
  have HB := Lib.hid (bel_next HB.out hb)
  clear hb
  have br_c0 := br.out.cell 0
  have br_f0 := br.out.free 0
  have br_c1 := br.out.cell 1
  have br_f1 := br.out.free 1
  have br_c2 := br.out.cell 2
  have br_f2 := br.out.free 2
  go_wp2_with fail
  refine bodyPost_ret (v := .tuple #[.agg #[.int .i64 0, .int .i64 0, .int .i64 0], .int .i64 20]) (by simp [results, Try.results65, go_sem, br_c0, br_c1, br_c2]) rfl ⟨rfl, setCell3 HB.out _ _ _⟩

set_option maxRecDepth 100000 in
set_option maxHeartbeats 1600000 in
theorem asked_low (c n x : Int) (w : World) (h : isCal c) (t : decide (x < 1) = true) : Calls Try.prog 65 #[.int .i64 c, .int .i64 n, .int .i64 x] w fun e w' => e = .returned (.tuple #[.agg #[.int .i64 0, .int .i64 0, .int .i64 0], .int .i64 22]) ∧ Below w.heap.size w w' := by
  obtain ⟨nm, hnm, hn'⟩ := rname_any c h
  obtain ⟨e1, e2⟩ := hnm
  have hn := Lib.hid hn'
  clear hn'
  have HB := Lib.hid (Below.refl w.heap.size w)
  have br := Lib.hid (Bk.newAt w #[.int .i64 0, .int .i64 0, .int .i64 0] 28 (w.heap.size) (by simp))
  have HB := Lib.hid (kept_more (o := (.cells #[.int .i64 0, .int .i64 0, .int .i64 0] 28)) HB.out)
  go_enter Try.func65, Try.ntmps65
  go_wp2_with fail
  refine (hn.out _).mono ?_
  rintro e w2 ⟨rfl, hb⟩
  have br := Lib.hid (br.out.next hb)
  have HB := Lib.hid (bel_next HB.out hb)
  clear hb
  have br_c0 := br.out.cell 0
  have br_f0 := br.out.free 0
  have br_c1 := br.out.cell 1
  have br_f1 := br.out.free 1
  have br_c2 := br.out.cell 2
  have br_f2 := br.out.free 2
  go_wp2_with fail
  refine bodyPost_ret (v := .tuple #[.agg #[.int .i64 0, .int .i64 0, .int .i64 0], .int .i64 22]) (by simp [results, Try.results65, go_sem, br_c0, br_c1, br_c2]) rfl ⟨rfl, setCell3 HB.out _ _ _⟩

set_option maxRecDepth 100000 in
set_option maxHeartbeats 1600000 in
theorem asked_high (c n x : Int) (w : World) (h : isCal c) (t : decide (x < 1) = false) (t' : decide (4 < x) = true) : Calls Try.prog 65 #[.int .i64 c, .int .i64 n, .int .i64 x] w fun e w' => e = .returned (.tuple #[.agg #[.int .i64 0, .int .i64 0, .int .i64 0], .int .i64 22]) ∧ Below w.heap.size w w' := by
  obtain ⟨nm, hnm, hn'⟩ := rname_any c h
  obtain ⟨e1, e2⟩ := hnm
  have hn := Lib.hid hn'
  clear hn'
  have HB := Lib.hid (Below.refl w.heap.size w)
  have br := Lib.hid (Bk.newAt w #[.int .i64 0, .int .i64 0, .int .i64 0] 28 (w.heap.size) (by simp))
  have HB := Lib.hid (kept_more (o := (.cells #[.int .i64 0, .int .i64 0, .int .i64 0] 28)) HB.out)
  go_enter Try.func65, Try.ntmps65
  go_wp2_with fail
  refine (hn.out _).mono ?_
  rintro e w2 ⟨rfl, hb⟩
  have br := Lib.hid (br.out.next hb)
  have HB := Lib.hid (bel_next HB.out hb)
  clear hb
  have br_c0 := br.out.cell 0
  have br_f0 := br.out.free 0
  have br_c1 := br.out.cell 1
  have br_f1 := br.out.free 1
  have br_c2 := br.out.cell 2
  have br_f2 := br.out.free 2
  go_wp2_with fail
  refine bodyPost_ret (v := .tuple #[.agg #[.int .i64 0, .int .i64 0, .int .i64 0], .int .i64 22]) (by simp [results, Try.results65, go_sem, br_c0, br_c1, br_c2]) rfl ⟨rfl, setCell3 HB.out _ _ _⟩

set_option maxRecDepth 100000 in
set_option maxHeartbeats 1600000 in
theorem asked_range (c n x : Int) (w : World) (h : isCal c) (t : decide (x < 1) = false) (t' : decide (4 < x) = false) (hx : ¬ (start c (-9999) ≤ n ∧ n < start c 10000)) : Calls Try.prog 65 #[.int .i64 c, .int .i64 n, .int .i64 x] w fun e w' => e = .returned (.tuple #[.agg #[.int .i64 0, .int .i64 0, .int .i64 0], .int .i64 21]) ∧ Below w.heap.size w w' := by
  obtain ⟨nm, hnm, hn'⟩ := rname_any c h
  obtain ⟨e1, e2⟩ := hnm
  have hn := Lib.hid hn'
  clear hn'
  have hd := Lib.hid (fun W => rdate_bad W h hx)
  clear hx
  have HB := Lib.hid (Below.refl w.heap.size w)
  have br := Lib.hid (Bk.newAt w #[.int .i64 0, .int .i64 0, .int .i64 0] 28 (w.heap.size) (by simp))
  have HB := Lib.hid (kept_more (o := (.cells #[.int .i64 0, .int .i64 0, .int .i64 0] 28)) HB.out)
  go_enter Try.func65, Try.ntmps65
  go_wp2_with fail
  refine (hn.out _).mono ?_
  rintro e w2 ⟨rfl, hb⟩
  have br := Lib.hid (br.out.next hb)
  have HB := Lib.hid (bel_next HB.out hb)
  clear hb
  go_wp2_with fail
  refine (hd.out _).mono ?_
  rintro e w3 ⟨rfl, hb⟩
  have br := Lib.hid (br.out.next hb)
  have HB := Lib.hid (bel_next HB.out hb)
  clear hb
  have br := Lib.hid (br.out.more (.cells #[.int .i64 0, .int .i64 0, .int .i64 0] 28))
  have bx := Lib.hid (Bk.newAt w3 #[.int .i64 0, .int .i64 0, .int .i64 0] 28 (w3.heap.size) (by simp))
  have HB := Lib.hid (kept_more (o := (.cells #[.int .i64 0, .int .i64 0, .int .i64 0] 28)) HB.out)
  have br_c0 := br.out.cell 0
  have br_f0 := br.out.free 0
  have br_c1 := br.out.cell 1
  have br_f1 := br.out.free 1
  have br_c2 := br.out.cell 2
  have br_f2 := br.out.free 2
  go_wp2_with fail
  refine bodyPost_ret (v := .tuple #[.agg #[.int .i64 0, .int .i64 0, .int .i64 0], .int .i64 21]) (by simp [results, Try.results65, go_sem, br_c0, br_c1, br_c2]) rfl ⟨rfl, setCell3 HB.out _ _ _⟩

set_option maxRecDepth 100000 in
set_option maxHeartbeats 1600000 in
theorem asked_yes (c n x y m d : Int) (w : World) (h : isCal c) (t : decide (x < 1) = false) (t' : decide (4 < x) = false) (hok : Ok c y m d) (hnum : num c y m d = n) : Calls Try.prog 65 #[.int .i64 c, .int .i64 n, .int .i64 x] w fun e w' => e = .returned (.tuple #[.agg #[.int .i64 y, .int .i64 m, .int .i64 d], .int .i64 0]) ∧ Below w.heap.size w w' := by
  obtain ⟨nm, hnm, hn'⟩ := rname_any c h
  obtain ⟨e1, e2⟩ := hnm
  have hn := Lib.hid hn'
  clear hn'
  have hd := Lib.hid (fun W => rdate_at W h hok hnum)
  clear hok hnum
  have HB := Lib.hid (Below.refl w.heap.size w)
  have br := Lib.hid (Bk.newAt w #[.int .i64 0, .int .i64 0, .int .i64 0] 28 (w.heap.size) (by simp))
  have HB := Lib.hid (kept_more (o := (.cells #[.int .i64 0, .int .i64 0, .int .i64 0] 28)) HB.out)
  go_enter Try.func65, Try.ntmps65
  go_wp2_with fail
  refine (hn.out _).mono ?_
  rintro e w2 ⟨rfl, hb⟩
  have br := Lib.hid (br.out.next hb)
  have HB := Lib.hid (bel_next HB.out hb)
  clear hb
  go_wp2_with fail
  refine (hd.out _).mono ?_
  rintro e w3 ⟨rfl, hb⟩
  have br := Lib.hid (br.out.next hb)
  have HB := Lib.hid (bel_next HB.out hb)
  clear hb
  have br := Lib.hid (br.out.more (.cells #[.int .i64 y, .int .i64 m, .int .i64 d] 28))
  have bx := Lib.hid (Bk.newAt w3 #[.int .i64 y, .int .i64 m, .int .i64 d] 28 (w3.heap.size) (by simp))
  have HB := Lib.hid (kept_more (o := (.cells #[.int .i64 y, .int .i64 m, .int .i64 d] 28)) HB.out)
  have bx_c0 := bx.out.cell 0
  have bx_c1 := bx.out.cell 1
  have bx_c2 := bx.out.cell 2
  have br_c0 := br.out.cell 0
  have br_f0 := br.out.free 0
  have br_c1 := br.out.cell 1
  have br_f1 := br.out.free 1
  have br_c2 := br.out.cell 2
  have br_f2 := br.out.free 2
  go_wp2_with fail
  refine bodyPost_ret (v := .tuple #[.agg #[.int .i64 y, .int .i64 m, .int .i64 d], .int .i64 0]) (by simp [results, Try.results65, go_sem, br_c0, br_c1, br_c2]) rfl ⟨rfl, setCell3 HB.out _ _ _⟩

set_option maxRecDepth 100000 in
set_option maxHeartbeats 1600000 in
theorem rField_err (c n x e : Int) (w : World) (ha : Hid (∀ W, Calls Try.prog 65 #[.int .i64 c, .int .i64 n, .int .i64 x] W fun zz w' => zz = .returned (.tuple #[.agg #[.int .i64 0, .int .i64 0, .int .i64 0], .int .i64 e]) ∧ Below W.heap.size W w')) (t : (e != 0) = true) : Calls Try.prog 40 #[.int .i64 c, .int .i64 n, .int .i64 x] w fun z w' => z = .returned (.tuple #[.int .i64 0, .int .i64 e]) ∧ Below w.heap.size w w' := by
  have HB := Lib.hid (Below.refl w.heap.size w)
  go_enter Try.func40, Try.ntmps40
  go_wp2_with fail
  refine (ha.out _).mono ?_
  rintro e w2 ⟨rfl, hb⟩
  have HB := Lib.hid (bel_next HB.out hb)
  clear hb
  have bx := Lib.hid (Bk.newAt w2 #[.int .i64 0, .int .i64 0, .int .i64 0] 28 (w2.heap.size) (by simp))
  have HB := Lib.hid (kept_more (o := (.cells #[.int .i64 0, .int .i64 0, .int .i64 0] 28)) HB.out)
  have bx_c0 := bx.out.cell 0
  have bx_c1 := bx.out.cell 1
  have bx_c2 := bx.out.cell 2
  go_wp2_with fail
  go_ret2
  exact ⟨rfl, HB.out⟩

set_option maxRecDepth 100000 in
set_option maxHeartbeats 1600000 in
theorem rField_1 (c n y m d : Int) (w : World) (ha : Hid (∀ W, Calls Try.prog 65 #[.int .i64 c, .int .i64 n, .int .i64 1] W fun zz w' => zz = .returned (.tuple #[.agg #[.int .i64 y, .int .i64 m, .int .i64 d], .int .i64 0]) ∧ Below W.heap.size W w'))  : Calls Try.prog 40 #[.int .i64 c, .int .i64 n, .int .i64 1] w fun z w' => z = .returned (.tuple #[.int .i64 y, .int .i64 0]) ∧ Below w.heap.size w w' := by
  have HB := Lib.hid (Below.refl w.heap.size w)
  go_enter Try.func40, Try.ntmps40
  go_wp2_with fail
  refine (ha.out _).mono ?_
  rintro e w2 ⟨rfl, hb⟩
  have HB := Lib.hid (bel_next HB.out hb)
  clear hb
  have bx := Lib.hid (Bk.newAt w2 #[.int .i64 y, .int .i64 m, .int .i64 d] 28 (w2.heap.size) (by simp))
  have HB := Lib.hid (kept_more (o := (.cells #[.int .i64 y, .int .i64 m, .int .i64 d] 28)) HB.out)
  have bx_c0 := bx.out.cell 0
  have bx_c1 := bx.out.cell 1
  have bx_c2 := bx.out.cell 2
  go_wp2_with fail
  go_ret2
  exact ⟨rfl, HB.out⟩

set_option maxRecDepth 100000 in
set_option maxHeartbeats 1600000 in
theorem rKey_err (c n x e : Int) (w : World) (ha : Hid (∀ W, Calls Try.prog 65 #[.int .i64 c, .int .i64 n, .int .i64 x] W fun zz w' => zz = .returned (.tuple #[.agg #[.int .i64 0, .int .i64 0, .int .i64 0], .int .i64 e]) ∧ Below W.heap.size W w')) (t : (e != 0) = true) : Calls Try.prog 42 #[.int .i64 c, .int .i64 n, .int .i64 x] w fun z w' => z = .returned (.tuple #[.int .i64 0, .int .i64 e]) ∧ Below w.heap.size w w' := by
  have HB := Lib.hid (Below.refl w.heap.size w)
  go_enter Try.func42, Try.ntmps42
  go_wp2_with fail
  refine (ha.out _).mono ?_
  rintro e w2 ⟨rfl, hb⟩
  have HB := Lib.hid (bel_next HB.out hb)
  clear hb
  have bx := Lib.hid (Bk.newAt w2 #[.int .i64 0, .int .i64 0, .int .i64 0] 28 (w2.heap.size) (by simp))
  have HB := Lib.hid (kept_more (o := (.cells #[.int .i64 0, .int .i64 0, .int .i64 0] 28)) HB.out)
  have bx_c0 := bx.out.cell 0
  have bx_c1 := bx.out.cell 1
  have bx_c2 := bx.out.cell 2
  go_wp2_with fail
  go_ret2
  exact ⟨rfl, HB.out⟩

set_option maxRecDepth 100000 in
set_option maxHeartbeats 1600000 in
theorem rKey_1 (c n y m d : Int) (w : World) (ha : Hid (∀ W, Calls Try.prog 65 #[.int .i64 c, .int .i64 n, .int .i64 1] W fun zz w' => zz = .returned (.tuple #[.agg #[.int .i64 y, .int .i64 m, .int .i64 d], .int .i64 0]) ∧ Below W.heap.size W w'))  : Calls Try.prog 42 #[.int .i64 c, .int .i64 n, .int .i64 1] w fun z w' => z = .returned (.tuple #[.int .i64 y, .int .i64 0]) ∧ Below w.heap.size w w' := by
  have HB := Lib.hid (Below.refl w.heap.size w)
  go_enter Try.func42, Try.ntmps42
  go_wp2_with fail
  refine (ha.out _).mono ?_
  rintro e w2 ⟨rfl, hb⟩
  have HB := Lib.hid (bel_next HB.out hb)
  clear hb
  have bx := Lib.hid (Bk.newAt w2 #[.int .i64 y, .int .i64 m, .int .i64 d] 28 (w2.heap.size) (by simp))
  have HB := Lib.hid (kept_more (o := (.cells #[.int .i64 y, .int .i64 m, .int .i64 d] 28)) HB.out)
  have bx_c0 := bx.out.cell 0
  have bx_c1 := bx.out.cell 1
  have bx_c2 := bx.out.cell 2
  go_wp2_with fail
  go_ret2
  exact ⟨rfl, HB.out⟩

set_option maxRecDepth 100000 in
set_option maxHeartbeats 1600000 in
theorem rField_2 (c n y m d : Int) (w : World) (ha : Hid (∀ W, Calls Try.prog 65 #[.int .i64 c, .int .i64 n, .int .i64 2] W fun zz w' => zz = .returned (.tuple #[.agg #[.int .i64 y, .int .i64 m, .int .i64 d], .int .i64 0]) ∧ Below W.heap.size W w'))  : Calls Try.prog 40 #[.int .i64 c, .int .i64 n, .int .i64 2] w fun z w' => z = .returned (.tuple #[.int .i64 m, .int .i64 0]) ∧ Below w.heap.size w w' := by
  have HB := Lib.hid (Below.refl w.heap.size w)
  go_enter Try.func40, Try.ntmps40
  go_wp2_with fail
  refine (ha.out _).mono ?_
  rintro e w2 ⟨rfl, hb⟩
  have HB := Lib.hid (bel_next HB.out hb)
  clear hb
  have bx := Lib.hid (Bk.newAt w2 #[.int .i64 y, .int .i64 m, .int .i64 d] 28 (w2.heap.size) (by simp))
  have HB := Lib.hid (kept_more (o := (.cells #[.int .i64 y, .int .i64 m, .int .i64 d] 28)) HB.out)
  have bx_c0 := bx.out.cell 0
  have bx_c1 := bx.out.cell 1
  have bx_c2 := bx.out.cell 2
  go_wp2_with fail
  go_ret2
  exact ⟨rfl, HB.out⟩

set_option maxRecDepth 100000 in
set_option maxHeartbeats 1600000 in
theorem rField_3 (c n y m d : Int) (w : World) (ha : Hid (∀ W, Calls Try.prog 65 #[.int .i64 c, .int .i64 n, .int .i64 3] W fun zz w' => zz = .returned (.tuple #[.agg #[.int .i64 y, .int .i64 m, .int .i64 d], .int .i64 0]) ∧ Below W.heap.size W w')) (k0 : 1 ≤ m) (k1 : m ≤ 12) (y0 : -9999 ≤ y) (y1 : y ≤ 9999) : Calls Try.prog 40 #[.int .i64 c, .int .i64 n, .int .i64 3] w fun z w' => z = .returned (.tuple #[.int .i64 (m % 12 / 3 + 1), .int .i64 0]) ∧ Below w.heap.size w w' := by
  have hs := Lib.hid (fun W => season_any m W k0 k1)
  have HB := Lib.hid (Below.refl w.heap.size w)
  go_enter Try.func40, Try.ntmps40
  go_wp2_with fail
  refine (ha.out _).mono ?_
  rintro e w2 ⟨rfl, hb⟩
  have HB := Lib.hid (bel_next HB.out hb)
  clear hb
  have bx := Lib.hid (Bk.newAt w2 #[.int .i64 y, .int .i64 m, .int .i64 d] 28 (w2.heap.size) (by simp))
  have HB := Lib.hid (kept_more (o := (.cells #[.int .i64 y, .int .i64 m, .int .i64 d] 28)) HB.out)
  have bx_c0 := bx.out.cell 0
  have bx_c1 := bx.out.cell 1
  have bx_c2 := bx.out.cell 2
  go_wp2_with fail
  refine (hs.out _).mono ?_
  rintro e z ⟨rfl, rfl⟩
  go_wp2_with fail
  go_ret2
  exact ⟨rfl, HB.out⟩

set_option maxRecDepth 100000 in
set_option maxHeartbeats 1600000 in
theorem rField_4 (c n x y m d : Int) (w : World) (ha : Hid (∀ W, Calls Try.prog 65 #[.int .i64 c, .int .i64 n, .int .i64 x] W fun zz w' => zz = .returned (.tuple #[.agg #[.int .i64 y, .int .i64 m, .int .i64 d], .int .i64 0]) ∧ Below W.heap.size W w')) (k0 : 1 ≤ m) (k1 : m ≤ 12) (y0 : -9999 ≤ y) (y1 : y ≤ 9999) (t1 : (x == 1) = false) (t2 : (x == 2) = false) (t3 : (x == 3) = false) (h : isCal c) (n0 : -3660000 ≤ n) (n1 : n ≤ 3660000) : Calls Try.prog 40 #[.int .i64 c, .int .i64 n, .int .i64 x] w fun z w' => z = .returned (.tuple #[.int .i64 (n - start c y + 1), .int .i64 0]) ∧ Below w.heap.size w w' := by
  have hf := Lib.hid (fun W => first_ref c y W h (by omega) (by omega))
  obtain ⟨sa, sb⟩ := start_bd c y (by omega) (by omega)
  clear h
  have HB := Lib.hid (Below.refl w.heap.size w)
  go_enter Try.func40, Try.ntmps40
  go_wp2_with fail
  refine (ha.out _).mono ?_
  rintro e w2 ⟨rfl, hb⟩
  have HB := Lib.hid (bel_next HB.out hb)
  clear hb
  have bx := Lib.hid (Bk.newAt w2 #[.int .i64 y, .int .i64 m, .int .i64 d] 28 (w2.heap.size) (by simp))
  have HB := Lib.hid (kept_more (o := (.cells #[.int .i64 y, .int .i64 m, .int .i64 d] 28)) HB.out)
  have bx_c0 := bx.out.cell 0
  have bx_c1 := bx.out.cell 1
  have bx_c2 := bx.out.cell 2
  go_wp2_with fail
  refine (hf.out _).mono ?_
  rintro e w3 ⟨rfl, hb⟩
  have bx := Lib.hid (bx.out.next hb)
  have HB := Lib.hid (bel_next HB.out hb)
  clear bx_c0 bx_c1 bx_c2
  clear hb
  go_wp2_with fail
  go_ret2
  exact ⟨rfl, HB.out⟩

set_option maxRecDepth 100000 in
set_option maxHeartbeats 1600000 in
theorem rKey_2 (c n y m d : Int) (w : World) (ha : Hid (∀ W, Calls Try.prog 65 #[.int .i64 c, .int .i64 n, .int .i64 2] W fun zz w' => zz = .returned (.tuple #[.agg #[.int .i64 y, .int .i64 m, .int .i64 d], .int .i64 0]) ∧ Below W.heap.size W w')) (k0 : 1 ≤ m) (k1 : m ≤ 12) (y0 : -9999 ≤ y) (y1 : y ≤ 9999) : Calls Try.prog 42 #[.int .i64 c, .int .i64 n, .int .i64 2] w fun z w' => z = .returned (.tuple #[.int .i64 (12 * y + m - 1), .int .i64 0]) ∧ Below w.heap.size w w' := by
  have HB := Lib.hid (Below.refl w.heap.size w)
  go_enter Try.func42, Try.ntmps42
  go_wp2_with fail
  refine (ha.out _).mono ?_
  rintro e w2 ⟨rfl, hb⟩
  have HB := Lib.hid (bel_next HB.out hb)
  clear hb
  have bx := Lib.hid (Bk.newAt w2 #[.int .i64 y, .int .i64 m, .int .i64 d] 28 (w2.heap.size) (by simp))
  have HB := Lib.hid (kept_more (o := (.cells #[.int .i64 y, .int .i64 m, .int .i64 d] 28)) HB.out)
  have bx_c0 := bx.out.cell 0
  have bx_c1 := bx.out.cell 1
  have bx_c2 := bx.out.cell 2
  go_wp2_with fail
  go_ret2
  exact ⟨rfl, HB.out⟩

set_option maxRecDepth 100000 in
set_option maxHeartbeats 1600000 in
theorem rKey_3d (c n y d : Int) (w : World) (ha : Hid (∀ W, Calls Try.prog 65 #[.int .i64 c, .int .i64 n, .int .i64 3] W fun zz w' => zz = .returned (.tuple #[.agg #[.int .i64 y, .int .i64 12, .int .i64 d], .int .i64 0]) ∧ Below W.heap.size W w')) (y0 : -9999 ≤ y) (y1 : y ≤ 9999) : Calls Try.prog 42 #[.int .i64 c, .int .i64 n, .int .i64 3] w fun z w' => z = .returned (.tuple #[.int .i64 (4 * (y + 1)), .int .i64 0]) ∧ Below w.heap.size w w' := by
  have hs := Lib.hid (fun W => season_any 12 W (by omega) (by omega))
  have HB := Lib.hid (Below.refl w.heap.size w)
  go_enter Try.func42, Try.ntmps42
  go_wp2_with fail
  refine (ha.out _).mono ?_
  rintro e w2 ⟨rfl, hb⟩
  have HB := Lib.hid (bel_next HB.out hb)
  clear hb
  have bx := Lib.hid (Bk.newAt w2 #[.int .i64 y, .int .i64 12, .int .i64 d] 28 (w2.heap.size) (by simp))
  have HB := Lib.hid (kept_more (o := (.cells #[.int .i64 y, .int .i64 12, .int .i64 d] 28)) HB.out)
  have bx_c0 := bx.out.cell 0
  have bx_c1 := bx.out.cell 1
  have bx_c2 := bx.out.cell 2
  go_wp2_with fail
  refine (hs.out _).mono ?_
  rintro e z ⟨rfl, rfl⟩
  go_wp2_with fail
  go_ret2
  exact ⟨rfl, HB.out⟩

set_option maxRecDepth 100000 in
set_option maxHeartbeats 1600000 in
theorem rKey_3 (c n y m d : Int) (w : World) (ha : Hid (∀ W, Calls Try.prog 65 #[.int .i64 c, .int .i64 n, .int .i64 3] W fun zz w' => zz = .returned (.tuple #[.agg #[.int .i64 y, .int .i64 m, .int .i64 d], .int .i64 0]) ∧ Below W.heap.size W w')) (k0 : 1 ≤ m) (k1 : m ≤ 12) (y0 : -9999 ≤ y) (y1 : y ≤ 9999) (hm : (m == 12) = false) : Calls Try.prog 42 #[.int .i64 c, .int .i64 n, .int .i64 3] w fun z w' => z = .returned (.tuple #[.int .i64 (4 * y + (m % 12 / 3 + 1) - 1), .int .i64 0]) ∧ Below w.heap.size w w' := by
  have hs := Lib.hid (fun W => season_any m W k0 k1)
  have HB := Lib.hid (Below.refl w.heap.size w)
  go_enter Try.func42, Try.ntmps42
  go_wp2_with fail
  refine (ha.out _).mono ?_
  rintro e w2 ⟨rfl, hb⟩
  have HB := Lib.hid (bel_next HB.out hb)
  clear hb
  have bx := Lib.hid (Bk.newAt w2 #[.int .i64 y, .int .i64 m, .int .i64 d] 28 (w2.heap.size) (by simp))
  have HB := Lib.hid (kept_more (o := (.cells #[.int .i64 y, .int .i64 m, .int .i64 d] 28)) HB.out)
  have bx_c0 := bx.out.cell 0
  have bx_c1 := bx.out.cell 1
  have bx_c2 := bx.out.cell 2
  go_wp2_with fail
  refine (hs.out _).mono ?_
  rintro e z ⟨rfl, rfl⟩
  go_wp2_with fail
  go_ret2
  exact ⟨rfl, HB.out⟩

set_option maxRecDepth 100000 in
set_option maxHeartbeats 1600000 in
theorem rKey_4 (c n x y m d : Int) (w : World) (ha : Hid (∀ W, Calls Try.prog 65 #[.int .i64 c, .int .i64 n, .int .i64 x] W fun zz w' => zz = .returned (.tuple #[.agg #[.int .i64 y, .int .i64 m, .int .i64 d], .int .i64 0]) ∧ Below W.heap.size W w')) (t1 : (x == 1) = false) (t2 : (x == 2) = false) (t3 : (x == 3) = false) : Calls Try.prog 42 #[.int .i64 c, .int .i64 n, .int .i64 x] w fun z w' => z = .returned (.tuple #[.int .i64 n, .int .i64 0]) ∧ Below w.heap.size w w' := by
  have HB := Lib.hid (Below.refl w.heap.size w)
  go_enter Try.func42, Try.ntmps42
  go_wp2_with fail
  refine (ha.out _).mono ?_
  rintro e w2 ⟨rfl, hb⟩
  have HB := Lib.hid (bel_next HB.out hb)
  clear hb
  have bx := Lib.hid (Bk.newAt w2 #[.int .i64 y, .int .i64 m, .int .i64 d] 28 (w2.heap.size) (by simp))
  have HB := Lib.hid (kept_more (o := (.cells #[.int .i64 y, .int .i64 m, .int .i64 d] 28)) HB.out)
  have bx_c0 := bx.out.cell 0
  have bx_c1 := bx.out.cell 1
  have bx_c2 := bx.out.cell 2
  go_wp2_with fail
  go_ret2
  exact ⟨rfl, HB.out⟩

theorem key3_eq (y m : Int) (h0 : 1 ≤ m) (h1 : m < 12) : 4 * y + (m % 12 / 3 + 1) - 1 = 4 * y + m / 3 := by omega
theorem rfk_yes (c n x y m d : Int) (h : isCal c) (hx0 : 1 ≤ x) (hx1 : x ≤ 4) (hok : Ok c y m d) (hnum : num c y m d = n) :
    (∀ W, Calls Try.prog 40 #[.int .i64 c, .int .i64 n, .int .i64 x] W fun zz w' => zz = .returned (.tuple #[.int .i64 (fieldD c y m d x), .int .i64 0]) ∧ Below W.heap.size W w') ∧ (∀ W, Calls Try.prog 42 #[.int .i64 c, .int .i64 n, .int .i64 x] W fun zz w' => zz = .returned (.tuple #[.int .i64 (keyD y m n x), .int .i64 0]) ∧ Below W.heap.size W w') := by
  have ha := Lib.hid (fun W => asked_yes c n x y m d W h (by simp; omega) (by simp; omega) hok hnum)
  have hb := num_range hok
  rw [hnum] at hb
  have b1 := start_bd c (-9999) (by omega) (by omega)
  have b2 := start_bd c 10000 (by omega) (by omega)
  have hd := day_eq c y m d
  rw [hnum] at hd
  obtain ⟨y0, y1, k0, k1, -, -⟩ := hok
  unfold fieldD keyD
  have hx : x = 1 ∨ x = 2 ∨ x = 3 ∨ x = 4 := by omega
  rcases hx with rfl | rfl | rfl | rfl
  · exact ⟨fun W => rField_1 c n y m d W ha, fun W => rKey_1 c n y m d W ha⟩
  · exact ⟨fun W => rField_2 c n y m d W ha, fun W => rKey_2 c n y m d W ha k0 k1 y0 y1⟩
  · refine ⟨fun W => rField_3 c n y m d W ha k0 k1 y0 y1, fun W => ?_⟩
    by_cases hm : m = 12
    · subst hm
      have := rKey_3d c n y d W ha y0 y1
      rw [show 4 * (y + 1) = 4 * y + 12 / 3 by omega] at this
      exact this
    · have := rKey_3 c n y m d W ha k0 k1 y0 y1 (by simpa using hm)
      rw [key3_eq y m k0 (by omega)] at this
      exact this
  · refine ⟨fun W => ?_, fun W => rKey_4 c n 4 y m d W ha (by decide) (by decide) (by decide)⟩
    have := rField_4 c n 4 y m d W ha k0 k1 y0 y1 (by decide) (by decide) (by decide) h (by omega) (by omega)
    rw [hd] at this
    exact this
theorem rfk_err (c n x e : Int) (he : (e != 0) = true) (ha : (∀ W, Calls Try.prog 65 #[.int .i64 c, .int .i64 n, .int .i64 x] W fun zz w' => zz = .returned (.tuple #[.agg #[.int .i64 0, .int .i64 0, .int .i64 0], .int .i64 e]) ∧ Below W.heap.size W w')) : (∀ W, Calls Try.prog 40 #[.int .i64 c, .int .i64 n, .int .i64 x] W fun zz w' => zz = .returned (.tuple #[.int .i64 0, .int .i64 e]) ∧ Below W.heap.size W w') ∧ (∀ W, Calls Try.prog 42 #[.int .i64 c, .int .i64 n, .int .i64 x] W fun zz w' => zz = .returned (.tuple #[.int .i64 0, .int .i64 e]) ∧ Below W.heap.size W w') :=
  ⟨fun W => rField_err c n x e W (Lib.hid ha) he, fun W => rKey_err c n x e W (Lib.hid ha) he⟩

/-- The same answers, for Field and for Key. -/
theorem fk_pair (c n x : Int) : ∃ v e u e2 : Int, (∀ W, Calls Try.prog 39 #[.int .i64 c, .int .i64 n, .int .i64 x] W fun zz w' => zz = .returned (.tuple #[.int .i64 v, .int .i64 e]) ∧ Below W.heap.size W w') ∧ (∀ W, Calls Try.prog 40 #[.int .i64 c, .int .i64 n, .int .i64 x] W fun zz w' => zz = .returned (.tuple #[.int .i64 v, .int .i64 e]) ∧ Below W.heap.size W w') ∧ (∀ W, Calls Try.prog 41 #[.int .i64 c, .int .i64 n, .int .i64 x] W fun zz w' => zz = .returned (.tuple #[.int .i64 u, .int .i64 e2]) ∧ Below W.heap.size W w') ∧ (∀ W, Calls Try.prog 42 #[.int .i64 c, .int .i64 n, .int .i64 x] W fun zz w' => zz = .returned (.tuple #[.int .i64 u, .int .i64 e2]) ∧ Below W.heap.size W w') := by
  by_cases hc : isCal c
  · by_cases hx : 1 ≤ x ∧ x ≤ 4
    · rcases date_cases c n with ⟨y, m, d, hok, hnum⟩ | hn
      · have a := rfk_yes c n x y m d hc hx.1 hx.2 hok hnum
        exact ⟨_, _, _, _, fun W => field_yes c n x W hc hx.1 hx.2 y m d hok hnum, a.1, fun W => key_yes c n x W hc hx.1 hx.2 y m d hok hnum, a.2⟩
      · have a := rfk_err c n x 21 (by decide) (fun W => asked_range c n x W hc (by simp; omega) (by simp; omega) hn)
        exact ⟨_, _, _, _, fun W => field_range c n x W hc hx.1 hx.2 hn, a.1, fun W => key_range c n x W hc hx.1 hx.2 hn, a.2⟩
    · have a := rfk_err c n x 22 (by decide) (fun W => by
        by_cases h1 : x < 1
        · exact asked_low c n x W hc (by simpa using h1)
        · exact asked_high c n x W hc (by simpa using h1) (by simp; omega))
      exact ⟨_, _, _, _, fun W => field_nofield c n x W hc hx, a.1, fun W => key_nofield c n x W hc hx, a.2⟩
  · have a := rfk_err c n x 20 (by decide) (fun W => asked_nocal c n x W hc)
    exact ⟨_, _, _, _, fun W => field_nocal c n x W hc, a.1, fun W => key_nocal c n x W hc, a.2⟩

set_option maxRecDepth 100000 in
set_option maxHeartbeats 3200000 in
theorem fields_walk (c n x v e u e2 : Int) (w : World) (a1 : Hid (∀ W, Calls Try.prog 39 #[.int .i64 c, .int .i64 n, .int .i64 x] W fun zz w' => zz = .returned (.tuple #[.int .i64 v, .int .i64 e]) ∧ Below W.heap.size W w')) (a2 : Hid (∀ W, Calls Try.prog 40 #[.int .i64 c, .int .i64 n, .int .i64 x] W fun zz w' => zz = .returned (.tuple #[.int .i64 v, .int .i64 e]) ∧ Below W.heap.size W w')) (b1 : Hid (∀ W, Calls Try.prog 41 #[.int .i64 c, .int .i64 n, .int .i64 x] W fun zz w' => zz = .returned (.tuple #[.int .i64 u, .int .i64 e2]) ∧ Below W.heap.size W w')) (b2 : Hid (∀ W, Calls Try.prog 42 #[.int .i64 c, .int .i64 n, .int .i64 x] W fun zz w' => zz = .returned (.tuple #[.int .i64 u, .int .i64 e2]) ∧ Below W.heap.size W w')) : Calls Try.prog 8 #[.int .i64 c, .int .i64 n, .int .i64 x] w (LawPost w) := by
  have hs := Lib.hid sane_any
  have HB := Lib.hid (Below.refl w.heap.size w)
  go_enter Try.func8, Try.ntmps8
  go_wp2_with fail
  refine (a1.out _).mono ?_
  rintro e w2 ⟨rfl, hb⟩
  have HB := Lib.hid (bel_next HB.out hb)
  clear hb
  go_wp2_with fail
  refine (a2.out _).mono ?_
  rintro e w3 ⟨rfl, hb⟩
  have HB := Lib.hid (bel_next HB.out hb)
  clear hb
  go_wp2_with fail
  refine (b1.out _).mono ?_
  rintro e w4 ⟨rfl, hb⟩
  have HB := Lib.hid (bel_next HB.out hb)
  clear hb
  go_wp2_with fail
  refine (b2.out _).mono ?_
  rintro e w5 ⟨rfl, hb⟩
  have HB := Lib.hid (bel_next HB.out hb)
  clear hb
  go_wp2_with fail
  refine (hs.out _).mono ?_
  rintro e w6 ⟨rfl, hb⟩
  have HB := Lib.hid (bel_next HB.out hb)
  clear hb
  go_wp2_with fail
  go_ret
  exact ⟨rfl, HB.out⟩

theorem fields_any (c n x : Int) (w : World) : Calls Try.prog 8 #[.int .i64 c, .int .i64 n, .int .i64 x] w (LawPost w) := by
  obtain ⟨v, e, u, e2, a1, a2, b1, b2⟩ := fk_pair c n x
  exact fields_walk c n x v e u e2 w (Lib.hid a1) (Lib.hid a2) (Lib.hid b1) (Lib.hid b2)
end Go.Proofs.Ythpeaeepcbbfcaa
