/- Map. -/
import Derived.Test.YthpeaeepcbbfcaaQ
namespace Go.Proofs.Ythpeaeepcbbfcaa
open Go.RowKit

/-- A box with its cells. -/
def Bk (W : World) (g : Nat) (cs : Array Value) (T : TypeId) : Prop := W.heap[g]? = some (.cells cs T (0, 0))
theorem Bk.lt {W : World} {g : Nat} {cs : Array Value} {T : TypeId} (h : Bk W g cs T) : g < W.heap.size := (Array.getElem?_eq_some_iff.1 h).1
theorem Bk.next {W W' : World} {g : Nat} {cs : Array Value} {T : TypeId} (h : Bk W g cs T) (hb : Below W.heap.size W W') : Bk W' g cs T := (hb.block _ h.lt).trans h
theorem Bk.new (W : World) (cs : Array Value) (T : TypeId) : Bk (W.alloc (.cells cs T)) W.heap.size cs T := heap_new _ _
theorem Bk.newAt (W : World) (cs : Array Value) (T : TypeId) (g : Nat) (hg : g = W.heap.size) : Bk (W.alloc (.cells cs T)) g cs T := by rw [hg]; exact Bk.new W cs T
theorem Bk.more {W : World} {g : Nat} {cs : Array Value} {T : TypeId} (h : Bk W g cs T) (o : Obj) : Bk (W.alloc o) g cs T := h.next (below_alloc _ _)
theorem Bk.cell {W : World} {g : Nat} {cs : Array Value} {T : TypeId} (h : Bk W g cs T) (k : Nat) : W.cell? ⟨g, k, none⟩ = cs[k]? := cell_of_heap h k
theorem Bk.free {W : World} {g : Nat} {cs : Array Value} {T : TypeId} (h : Bk W g cs T) (k : Nat) : W.frozen? ⟨g, k, none⟩ = false := free_of_heap h k
theorem bel_next {w W W' : World} (h : Below w.heap.size w W) (hb : Below W.heap.size W W') : Below w.heap.size w W' := h.trans (hb.mono h.size)

set_option maxRecDepth 100000 in
set_option maxHeartbeats 3200000 in
theorem map_nn (a b y m d : Int) (w : World) (ha : ¬ isCal a) (hb0 : ¬ isCal b) : Calls Try.prog 34 #[.int .i64 a, .int .i64 b, .agg #[.int .i64 y, .int .i64 m, .int .i64 d]] w fun e w' => e = .returned (.tuple #[.agg #[.int .i64 0, .int .i64 0, .int .i64 0], .int .i64 0, .int .i64 20]) ∧ Below w.heap.size w w' := by
  have h1 := Lib.hid (fun W => rulesOf_no a W ha)
  clear ha
  have h2 := Lib.hid (fun W => rulesOf_no b W hb0)
  clear hb0
  have HB := Lib.hid (Below.refl w.heap.size w)
  have bd := Lib.hid (Bk.newAt w #[.int .i64 y, .int .i64 m, .int .i64 d] 28 (w.heap.size) (by simp))
  have HB := Lib.hid (kept_more (o := (.cells #[.int .i64 y, .int .i64 m, .int .i64 d] 28)) HB.out)
  have bd := Lib.hid (bd.out.more (.cells #[.int .i64 0, .int .i64 0, .int .i64 0] 28))
  have br := Lib.hid (Bk.newAt (w.alloc (.cells #[.int .i64 y, .int .i64 m, .int .i64 d] 28)) #[.int .i64 0, .int .i64 0, .int .i64 0] 28 (w.heap.size + 1) (by simp))
  have HB := Lib.hid (kept_more (o := (.cells #[.int .i64 0, .int .i64 0, .int .i64 0] 28)) HB.out)
  go_enter Try.func34, Try.ntmps34
  go_wp2_with fail
  refine (h1.out _).mono ?_
  rintro e w2 ⟨rfl, hb⟩
  have bd := Lib.hid (bd.out.next hb)
  have br := Lib.hid (br.out.next hb)
  have HB := Lib.hid (bel_next HB.out hb)
  clear hb
  have bd := Lib.hid (bd.out.more (.cells #[.int .i64 0, .int .i64 0, .int .i64 0, .int .i64 0, .int .i64 0, .int .i64 0, .int .i64 0, .int .i64 0, .int .i64 0, .int .i64 0, .int .i64 0, .int .i64 0, .nilFunc] 68))
  have br := Lib.hid (br.out.more (.cells #[.int .i64 0, .int .i64 0, .int .i64 0, .int .i64 0, .int .i64 0, .int .i64 0, .int .i64 0, .int .i64 0, .int .i64 0, .int .i64 0, .int .i64 0, .int .i64 0, .nilFunc] 68))
  have HB := Lib.hid (kept_more (o := (.cells #[.int .i64 0, .int .i64 0, .int .i64 0, .int .i64 0, .int .i64 0, .int .i64 0, .int .i64 0, .int .i64 0, .int .i64 0, .int .i64 0, .int .i64 0, .int .i64 0, .nilFunc] 68)) HB.out)
  go_wp2_with fail
  refine (h2.out _).mono ?_
  rintro e w3 ⟨rfl, hb⟩
  have bd := Lib.hid (bd.out.next hb)
  have br := Lib.hid (br.out.next hb)
  have HB := Lib.hid (bel_next HB.out hb)
  clear hb
  have bd := Lib.hid (bd.out.more (.cells #[.int .i64 0, .int .i64 0, .int .i64 0, .int .i64 0, .int .i64 0, .int .i64 0, .int .i64 0, .int .i64 0, .int .i64 0, .int .i64 0, .int .i64 0, .int .i64 0, .nilFunc] 68))
  have br := Lib.hid (br.out.more (.cells #[.int .i64 0, .int .i64 0, .int .i64 0, .int .i64 0, .int .i64 0, .int .i64 0, .int .i64 0, .int .i64 0, .int .i64 0, .int .i64 0, .int .i64 0, .int .i64 0, .nilFunc] 68))
  have HB := Lib.hid (kept_more (o := (.cells #[.int .i64 0, .int .i64 0, .int .i64 0, .int .i64 0, .int .i64 0, .int .i64 0, .int .i64 0, .int .i64 0, .int .i64 0, .int .i64 0, .int .i64 0, .int .i64 0, .nilFunc] 68)) HB.out)
  have br_c0 := br.out.cell 0
  have br_f0 := br.out.free 0
  have br_c1 := br.out.cell 1
  have br_f1 := br.out.free 1
  have br_c2 := br.out.cell 2
  have br_f2 := br.out.free 2
  go_wp2_with fail
  refine bodyPost_ret (v := .tuple #[.agg #[.int .i64 0, .int .i64 0, .int .i64 0], .int .i64 0, .int .i64 20]) (by simp [results, Try.results34, go_sem, br_c0, br_c1, br_c2]) rfl ⟨rfl, ?_⟩
  exact ((HB.out.setCell (by show w.heap.size ≤ w.heap.size + 1; omega) _).setCell (by show w.heap.size ≤ w.heap.size + 1; omega) _).setCell (by show w.heap.size ≤ w.heap.size + 1; omega) _

set_option maxRecDepth 100000 in
set_option maxHeartbeats 3200000 in
theorem map_ny (a b y m d : Int) (w : World) (ha : ¬ isCal a) (hb0 : isCal b) : Calls Try.prog 34 #[.int .i64 a, .int .i64 b, .agg #[.int .i64 y, .int .i64 m, .int .i64 d]] w fun e w' => e = .returned (.tuple #[.agg #[.int .i64 0, .int .i64 0, .int .i64 0], .int .i64 0, .int .i64 20]) ∧ Below w.heap.size w w' := by
  have h1 := Lib.hid (fun W => rulesOf_no a W ha)
  clear ha
  have h2 := Lib.hid (fun W => rulesOf_ok b W hb0)
  clear hb0
  have HB := Lib.hid (Below.refl w.heap.size w)
  have bd := Lib.hid (Bk.newAt w #[.int .i64 y, .int .i64 m, .int .i64 d] 28 (w.heap.size) (by simp))
  have HB := Lib.hid (kept_more (o := (.cells #[.int .i64 y, .int .i64 m, .int .i64 d] 28)) HB.out)
  have bd := Lib.hid (bd.out.more (.cells #[.int .i64 0, .int .i64 0, .int .i64 0] 28))
  have br := Lib.hid (Bk.newAt (w.alloc (.cells #[.int .i64 y, .int .i64 m, .int .i64 d] 28)) #[.int .i64 0, .int .i64 0, .int .i64 0] 28 (w.heap.size + 1) (by simp))
  have HB := Lib.hid (kept_more (o := (.cells #[.int .i64 0, .int .i64 0, .int .i64 0] 28)) HB.out)
  go_enter Try.func34, Try.ntmps34
  go_wp2_with fail
  refine (h1.out _).mono ?_
  rintro e w2 ⟨rfl, hb⟩
  have bd := Lib.hid (bd.out.next hb)
  have br := Lib.hid (br.out.next hb)
  have HB := Lib.hid (bel_next HB.out hb)
  clear hb
  have bd := Lib.hid (bd.out.more (.cells #[.int .i64 0, .int .i64 0, .int .i64 0, .int .i64 0, .int .i64 0, .int .i64 0, .int .i64 0, .int .i64 0, .int .i64 0, .int .i64 0, .int .i64 0, .int .i64 0, .nilFunc] 68))
  have br := Lib.hid (br.out.more (.cells #[.int .i64 0, .int .i64 0, .int .i64 0, .int .i64 0, .int .i64 0, .int .i64 0, .int .i64 0, .int .i64 0, .int .i64 0, .int .i64 0, .int .i64 0, .int .i64 0, .nilFunc] 68))
  have HB := Lib.hid (kept_more (o := (.cells #[.int .i64 0, .int .i64 0, .int .i64 0, .int .i64 0, .int .i64 0, .int .i64 0, .int .i64 0, .int .i64 0, .int .i64 0, .int .i64 0, .int .i64 0, .int .i64 0, .nilFunc] 68)) HB.out)
  go_wp2_with fail
  refine (h2.out _).mono ?_
  rintro e w3 ⟨r, rfl, hr, hb⟩
  obtain ⟨p0, p1, p2, p3, p4, p5, p6, p7, p8, p9, p10, p11, g, rfl⟩ := hr.form
  have Hr2 := Lib.hid hr
  clear hr
  have bd := Lib.hid (bd.out.next hb)
  have br := Lib.hid (br.out.next hb)
  have HB := Lib.hid (bel_next HB.out hb)
  clear hb
  have bd := Lib.hid (bd.out.more (.cells #[.int .i64 p0, .int .i64 p1, .int .i64 p2, .int .i64 p3, .int .i64 p4, .int .i64 p5, .int .i64 p6, .int .i64 p7, .int .i64 p8, .int .i64 p9, .int .i64 p10, .int .i64 p11, .func (.func g) #[] #[]] 68))
  have br := Lib.hid (br.out.more (.cells #[.int .i64 p0, .int .i64 p1, .int .i64 p2, .int .i64 p3, .int .i64 p4, .int .i64 p5, .int .i64 p6, .int .i64 p7, .int .i64 p8, .int .i64 p9, .int .i64 p10, .int .i64 p11, .func (.func g) #[] #[]] 68))
  have r2 := Lib.hid (Bk.newAt w3 #[.int .i64 p0, .int .i64 p1, .int .i64 p2, .int .i64 p3, .int .i64 p4, .int .i64 p5, .int .i64 p6, .int .i64 p7, .int .i64 p8, .int .i64 p9, .int .i64 p10, .int .i64 p11, .func (.func g) #[] #[]] 68 (w3.heap.size) (by simp))
  have HB := Lib.hid (kept_more (o := (.cells #[.int .i64 p0, .int .i64 p1, .int .i64 p2, .int .i64 p3, .int .i64 p4, .int .i64 p5, .int .i64 p6, .int .i64 p7, .int .i64 p8, .int .i64 p9, .int .i64 p10, .int .i64 p11, .func (.func g) #[] #[]] 68)) HB.out)
  have br_c0 := br.out.cell 0
  have br_f0 := br.out.free 0
  have br_c1 := br.out.cell 1
  have br_f1 := br.out.free 1
  have br_c2 := br.out.cell 2
  have br_f2 := br.out.free 2
  go_wp2_with fail
  refine bodyPost_ret (v := .tuple #[.agg #[.int .i64 0, .int .i64 0, .int .i64 0], .int .i64 0, .int .i64 20]) (by simp [results, Try.results34, go_sem, br_c0, br_c1, br_c2]) rfl ⟨rfl, ?_⟩
  exact ((HB.out.setCell (by show w.heap.size ≤ w.heap.size + 1; omega) _).setCell (by show w.heap.size ≤ w.heap.size + 1; omega) _).setCell (by show w.heap.size ≤ w.heap.size + 1; omega) _

set_option maxRecDepth 100000 in
set_option maxHeartbeats 3200000 in
theorem map_yn (a b y m d : Int) (w : World) (ha : isCal a) (hb0 : ¬ isCal b) : Calls Try.prog 34 #[.int .i64 a, .int .i64 b, .agg #[.int .i64 y, .int .i64 m, .int .i64 d]] w fun e w' => e = .returned (.tuple #[.agg #[.int .i64 0, .int .i64 0, .int .i64 0], .int .i64 0, .int .i64 20]) ∧ Below w.heap.size w w' := by
  have h1 := Lib.hid (fun W => rulesOf_ok a W ha)
  clear ha
  have h2 := Lib.hid (fun W => rulesOf_no b W hb0)
  clear hb0
  have HB := Lib.hid (Below.refl w.heap.size w)
  have bd := Lib.hid (Bk.newAt w #[.int .i64 y, .int .i64 m, .int .i64 d] 28 (w.heap.size) (by simp))
  have HB := Lib.hid (kept_more (o := (.cells #[.int .i64 y, .int .i64 m, .int .i64 d] 28)) HB.out)
  have bd := Lib.hid (bd.out.more (.cells #[.int .i64 0, .int .i64 0, .int .i64 0] 28))
  have br := Lib.hid (Bk.newAt (w.alloc (.cells #[.int .i64 y, .int .i64 m, .int .i64 d] 28)) #[.int .i64 0, .int .i64 0, .int .i64 0] 28 (w.heap.size + 1) (by simp))
  have HB := Lib.hid (kept_more (o := (.cells #[.int .i64 0, .int .i64 0, .int .i64 0] 28)) HB.out)
  go_enter Try.func34, Try.ntmps34
  go_wp2_with fail
  refine (h1.out _).mono ?_
  rintro e w2 ⟨r, rfl, hr, hb⟩
  obtain ⟨m0, m1, m2, m3, m4, m5, m6, m7, m8, m9, m10, m11, f, rfl⟩ := hr.form
  have Hr1 := Lib.hid hr
  clear hr
  have bd := Lib.hid (bd.out.next hb)
  have br := Lib.hid (br.out.next hb)
  have HB := Lib.hid (bel_next HB.out hb)
  clear hb
  have bd := Lib.hid (bd.out.more (.cells #[.int .i64 m0, .int .i64 m1, .int .i64 m2, .int .i64 m3, .int .i64 m4, .int .i64 m5, .int .i64 m6, .int .i64 m7, .int .i64 m8, .int .i64 m9, .int .i64 m10, .int .i64 m11, .func (.func f) #[] #[]] 68))
  have br := Lib.hid (br.out.more (.cells #[.int .i64 m0, .int .i64 m1, .int .i64 m2, .int .i64 m3, .int .i64 m4, .int .i64 m5, .int .i64 m6, .int .i64 m7, .int .i64 m8, .int .i64 m9, .int .i64 m10, .int .i64 m11, .func (.func f) #[] #[]] 68))
  have r1 := Lib.hid (Bk.newAt w2 #[.int .i64 m0, .int .i64 m1, .int .i64 m2, .int .i64 m3, .int .i64 m4, .int .i64 m5, .int .i64 m6, .int .i64 m7, .int .i64 m8, .int .i64 m9, .int .i64 m10, .int .i64 m11, .func (.func f) #[] #[]] 68 (w2.heap.size) (by simp))
  have HB := Lib.hid (kept_more (o := (.cells #[.int .i64 m0, .int .i64 m1, .int .i64 m2, .int .i64 m3, .int .i64 m4, .int .i64 m5, .int .i64 m6, .int .i64 m7, .int .i64 m8, .int .i64 m9, .int .i64 m10, .int .i64 m11, .func (.func f) #[] #[]] 68)) HB.out)
  go_wp2_with fail
  refine (h2.out _).mono ?_
  rintro e w3 ⟨rfl, hb⟩
  have bd := Lib.hid (bd.out.next hb)
  have br := Lib.hid (br.out.next hb)
  have r1 := Lib.hid (r1.out.next hb)
  have HB := Lib.hid (bel_next HB.out hb)
  clear hb
  have bd := Lib.hid (bd.out.more (.cells #[.int .i64 0, .int .i64 0, .int .i64 0, .int .i64 0, .int .i64 0, .int .i64 0, .int .i64 0, .int .i64 0, .int .i64 0, .int .i64 0, .int .i64 0, .int .i64 0, .nilFunc] 68))
  have br := Lib.hid (br.out.more (.cells #[.int .i64 0, .int .i64 0, .int .i64 0, .int .i64 0, .int .i64 0, .int .i64 0, .int .i64 0, .int .i64 0, .int .i64 0, .int .i64 0, .int .i64 0, .int .i64 0, .nilFunc] 68))
  have r1 := Lib.hid (r1.out.more (.cells #[.int .i64 0, .int .i64 0, .int .i64 0, .int .i64 0, .int .i64 0, .int .i64 0, .int .i64 0, .int .i64 0, .int .i64 0, .int .i64 0, .int .i64 0, .int .i64 0, .nilFunc] 68))
  have HB := Lib.hid (kept_more (o := (.cells #[.int .i64 0, .int .i64 0, .int .i64 0, .int .i64 0, .int .i64 0, .int .i64 0, .int .i64 0, .int .i64 0, .int .i64 0, .int .i64 0, .int .i64 0, .int .i64 0, .nilFunc] 68)) HB.out)
  have br_c0 := br.out.cell 0
  have br_f0 := br.out.free 0
  have br_c1 := br.out.cell 1
  have br_f1 := br.out.free 1
  have br_c2 := br.out.cell 2
  have br_f2 := br.out.free 2
  go_wp2_with fail
  refine bodyPost_ret (v := .tuple #[.agg #[.int .i64 0, .int .i64 0, .int .i64 0], .int .i64 0, .int .i64 20]) (by simp [results, Try.results34, go_sem, br_c0, br_c1, br_c2]) rfl ⟨rfl, ?_⟩
  exact ((HB.out.setCell (by show w.heap.size ≤ w.heap.size + 1; omega) _).setCell (by show w.heap.size ≤ w.heap.size + 1; omega) _).setCell (by show w.heap.size ≤ w.heap.size + 1; omega) _

set_option maxRecDepth 100000 in
set_option maxHeartbeats 3200000 in
theorem map_bad (a b y m d : Int) (w : World) (ha : isCal a) (hb0 : isCal b) (v1 : Hid (ok a y m d = false)) : Calls Try.prog 34 #[.int .i64 a, .int .i64 b, .agg #[.int .i64 y, .int .i64 m, .int .i64 d]] w fun e w' => e = .returned (.tuple #[.agg #[.int .i64 0, .int .i64 0, .int .i64 0], .int .i64 0, .int .i64 21]) ∧ Below w.heap.size w w' := by
  have h1 := Lib.hid (fun W => rulesOf_ok a W ha)
  clear ha
  have h2 := Lib.hid (fun W => rulesOf_ok b W hb0)
  clear hb0
  have HB := Lib.hid (Below.refl w.heap.size w)
  have bd := Lib.hid (Bk.newAt w #[.int .i64 y, .int .i64 m, .int .i64 d] 28 (w.heap.size) (by simp))
  have HB := Lib.hid (kept_more (o := (.cells #[.int .i64 y, .int .i64 m, .int .i64 d] 28)) HB.out)
  have bd := Lib.hid (bd.out.more (.cells #[.int .i64 0, .int .i64 0, .int .i64 0] 28))
  have br := Lib.hid (Bk.newAt (w.alloc (.cells #[.int .i64 y, .int .i64 m, .int .i64 d] 28)) #[.int .i64 0, .int .i64 0, .int .i64 0] 28 (w.heap.size + 1) (by simp))
  have HB := Lib.hid (kept_more (o := (.cells #[.int .i64 0, .int .i64 0, .int .i64 0] 28)) HB.out)
  go_enter Try.func34, Try.ntmps34
  go_wp2_with fail
  refine (h1.out _).mono ?_
  rintro e w2 ⟨r, rfl, hr, hb⟩
  obtain ⟨m0, m1, m2, m3, m4, m5, m6, m7, m8, m9, m10, m11, f, rfl⟩ := hr.form
  have Hr1 := Lib.hid hr
  clear hr
  have bd := Lib.hid (bd.out.next hb)
  have br := Lib.hid (br.out.next hb)
  have HB := Lib.hid (bel_next HB.out hb)
  clear hb
  have bd := Lib.hid (bd.out.more (.cells #[.int .i64 m0, .int .i64 m1, .int .i64 m2, .int .i64 m3, .int .i64 m4, .int .i64 m5, .int .i64 m6, .int .i64 m7, .int .i64 m8, .int .i64 m9, .int .i64 m10, .int .i64 m11, .func (.func f) #[] #[]] 68))
  have br := Lib.hid (br.out.more (.cells #[.int .i64 m0, .int .i64 m1, .int .i64 m2, .int .i64 m3, .int .i64 m4, .int .i64 m5, .int .i64 m6, .int .i64 m7, .int .i64 m8, .int .i64 m9, .int .i64 m10, .int .i64 m11, .func (.func f) #[] #[]] 68))
  have r1 := Lib.hid (Bk.newAt w2 #[.int .i64 m0, .int .i64 m1, .int .i64 m2, .int .i64 m3, .int .i64 m4, .int .i64 m5, .int .i64 m6, .int .i64 m7, .int .i64 m8, .int .i64 m9, .int .i64 m10, .int .i64 m11, .func (.func f) #[] #[]] 68 (w2.heap.size) (by simp))
  have HB := Lib.hid (kept_more (o := (.cells #[.int .i64 m0, .int .i64 m1, .int .i64 m2, .int .i64 m3, .int .i64 m4, .int .i64 m5, .int .i64 m6, .int .i64 m7, .int .i64 m8, .int .i64 m9, .int .i64 m10, .int .i64 m11, .func (.func f) #[] #[]] 68)) HB.out)
  go_wp2_with fail
  refine (h2.out _).mono ?_
  rintro e w3 ⟨r, rfl, hr, hb⟩
  obtain ⟨p0, p1, p2, p3, p4, p5, p6, p7, p8, p9, p10, p11, g, rfl⟩ := hr.form
  have Hr2 := Lib.hid hr
  clear hr
  have bd := Lib.hid (bd.out.next hb)
  have br := Lib.hid (br.out.next hb)
  have r1 := Lib.hid (r1.out.next hb)
  have HB := Lib.hid (bel_next HB.out hb)
  clear hb
  have bd := Lib.hid (bd.out.more (.cells #[.int .i64 p0, .int .i64 p1, .int .i64 p2, .int .i64 p3, .int .i64 p4, .int .i64 p5, .int .i64 p6, .int .i64 p7, .int .i64 p8, .int .i64 p9, .int .i64 p10, .int .i64 p11, .func (.func g) #[] #[]] 68))
  have br := Lib.hid (br.out.more (.cells #[.int .i64 p0, .int .i64 p1, .int .i64 p2, .int .i64 p3, .int .i64 p4, .int .i64 p5, .int .i64 p6, .int .i64 p7, .int .i64 p8, .int .i64 p9, .int .i64 p10, .int .i64 p11, .func (.func g) #[] #[]] 68))
  have r1 := Lib.hid (r1.out.more (.cells #[.int .i64 p0, .int .i64 p1, .int .i64 p2, .int .i64 p3, .int .i64 p4, .int .i64 p5, .int .i64 p6, .int .i64 p7, .int .i64 p8, .int .i64 p9, .int .i64 p10, .int .i64 p11, .func (.func g) #[] #[]] 68))
  have r2 := Lib.hid (Bk.newAt w3 #[.int .i64 p0, .int .i64 p1, .int .i64 p2, .int .i64 p3, .int .i64 p4, .int .i64 p5, .int .i64 p6, .int .i64 p7, .int .i64 p8, .int .i64 p9, .int .i64 p10, .int .i64 p11, .func (.func g) #[] #[]] 68 (w3.heap.size) (by simp))
  have HB := Lib.hid (kept_more (o := (.cells #[.int .i64 p0, .int .i64 p1, .int .i64 p2, .int .i64 p3, .int .i64 p4, .int .i64 p5, .int .i64 p6, .int .i64 p7, .int .i64 p8, .int .i64 p9, .int .i64 p10, .int .i64 p11, .func (.func g) #[] #[]] 68)) HB.out)
  have r1_c0 := r1.out.cell 0
  have r1_c1 := r1.out.cell 1
  have r1_c2 := r1.out.cell 2
  have r1_c3 := r1.out.cell 3
  have r1_c4 := r1.out.cell 4
  have r1_c5 := r1.out.cell 5
  have r1_c6 := r1.out.cell 6
  have r1_c7 := r1.out.cell 7
  have r1_c8 := r1.out.cell 8
  have r1_c9 := r1.out.cell 9
  have r1_c10 := r1.out.cell 10
  have r1_c11 := r1.out.cell 11
  have r1_c12 := r1.out.cell 12
  have bd_c0 := bd.out.cell 0
  have bd_c1 := bd.out.cell 1
  have bd_c2 := bd.out.cell 2
  have hv1 := Lib.hid (fun W => valid_any _ a y m d W Hr1.out)
  rw [v1.out] at hv1
  go_wp2_with fail
  refine (hv1.out _).mono ?_
  rintro e w4 ⟨rfl, hb⟩
  have bd := Lib.hid (bd.out.next hb)
  have br := Lib.hid (br.out.next hb)
  have r1 := Lib.hid (r1.out.next hb)
  have r2 := Lib.hid (r2.out.next hb)
  have HB := Lib.hid (bel_next HB.out hb)
  clear r1_c0 r1_c1 r1_c2 r1_c3 r1_c4 r1_c5 r1_c6 r1_c7 r1_c8 r1_c9 r1_c10 r1_c11 r1_c12 bd_c0 bd_c1 bd_c2
  clear hb
  have br_c0 := br.out.cell 0
  have br_f0 := br.out.free 0
  have br_c1 := br.out.cell 1
  have br_f1 := br.out.free 1
  have br_c2 := br.out.cell 2
  have br_f2 := br.out.free 2
  go_wp2_with fail
  refine bodyPost_ret (v := .tuple #[.agg #[.int .i64 0, .int .i64 0, .int .i64 0], .int .i64 0, .int .i64 21]) (by simp [results, Try.results34, go_sem, br_c0, br_c1, br_c2]) rfl ⟨rfl, ?_⟩
  exact ((HB.out.setCell (by show w.heap.size ≤ w.heap.size + 1; omega) _).setCell (by show w.heap.size ≤ w.heap.size + 1; omega) _).setCell (by show w.heap.size ≤ w.heap.size + 1; omega) _

set_option maxRecDepth 100000 in
set_option maxHeartbeats 3200000 in
theorem map_miss (a b y m d : Int) (w : World) (ha : isCal a) (hb0 : isCal b) (v1 : Hid (ok a y m d = true)) (v2 : Hid (ok b y m d = false)) : Calls Try.prog 34 #[.int .i64 a, .int .i64 b, .agg #[.int .i64 y, .int .i64 m, .int .i64 d]] w fun e w' => e = .returned (.tuple #[.agg #[.int .i64 0, .int .i64 0, .int .i64 0], .int .i64 1, .int .i64 0]) ∧ Below w.heap.size w w' := by
  have h1 := Lib.hid (fun W => rulesOf_ok a W ha)
  clear ha
  have h2 := Lib.hid (fun W => rulesOf_ok b W hb0)
  clear hb0
  have HB := Lib.hid (Below.refl w.heap.size w)
  have bd := Lib.hid (Bk.newAt w #[.int .i64 y, .int .i64 m, .int .i64 d] 28 (w.heap.size) (by simp))
  have HB := Lib.hid (kept_more (o := (.cells #[.int .i64 y, .int .i64 m, .int .i64 d] 28)) HB.out)
  have bd := Lib.hid (bd.out.more (.cells #[.int .i64 0, .int .i64 0, .int .i64 0] 28))
  have br := Lib.hid (Bk.newAt (w.alloc (.cells #[.int .i64 y, .int .i64 m, .int .i64 d] 28)) #[.int .i64 0, .int .i64 0, .int .i64 0] 28 (w.heap.size + 1) (by simp))
  have HB := Lib.hid (kept_more (o := (.cells #[.int .i64 0, .int .i64 0, .int .i64 0] 28)) HB.out)
  go_enter Try.func34, Try.ntmps34
  go_wp2_with fail
  refine (h1.out _).mono ?_
  rintro e w2 ⟨r, rfl, hr, hb⟩
  obtain ⟨m0, m1, m2, m3, m4, m5, m6, m7, m8, m9, m10, m11, f, rfl⟩ := hr.form
  have Hr1 := Lib.hid hr
  clear hr
  have bd := Lib.hid (bd.out.next hb)
  have br := Lib.hid (br.out.next hb)
  have HB := Lib.hid (bel_next HB.out hb)
  clear hb
  have bd := Lib.hid (bd.out.more (.cells #[.int .i64 m0, .int .i64 m1, .int .i64 m2, .int .i64 m3, .int .i64 m4, .int .i64 m5, .int .i64 m6, .int .i64 m7, .int .i64 m8, .int .i64 m9, .int .i64 m10, .int .i64 m11, .func (.func f) #[] #[]] 68))
  have br := Lib.hid (br.out.more (.cells #[.int .i64 m0, .int .i64 m1, .int .i64 m2, .int .i64 m3, .int .i64 m4, .int .i64 m5, .int .i64 m6, .int .i64 m7, .int .i64 m8, .int .i64 m9, .int .i64 m10, .int .i64 m11, .func (.func f) #[] #[]] 68))
  have r1 := Lib.hid (Bk.newAt w2 #[.int .i64 m0, .int .i64 m1, .int .i64 m2, .int .i64 m3, .int .i64 m4, .int .i64 m5, .int .i64 m6, .int .i64 m7, .int .i64 m8, .int .i64 m9, .int .i64 m10, .int .i64 m11, .func (.func f) #[] #[]] 68 (w2.heap.size) (by simp))
  have HB := Lib.hid (kept_more (o := (.cells #[.int .i64 m0, .int .i64 m1, .int .i64 m2, .int .i64 m3, .int .i64 m4, .int .i64 m5, .int .i64 m6, .int .i64 m7, .int .i64 m8, .int .i64 m9, .int .i64 m10, .int .i64 m11, .func (.func f) #[] #[]] 68)) HB.out)
  go_wp2_with fail
  refine (h2.out _).mono ?_
  rintro e w3 ⟨r, rfl, hr, hb⟩
  obtain ⟨p0, p1, p2, p3, p4, p5, p6, p7, p8, p9, p10, p11, g, rfl⟩ := hr.form
  have Hr2 := Lib.hid hr
  clear hr
  have bd := Lib.hid (bd.out.next hb)
  have br := Lib.hid (br.out.next hb)
  have r1 := Lib.hid (r1.out.next hb)
  have HB := Lib.hid (bel_next HB.out hb)
  clear hb
  have bd := Lib.hid (bd.out.more (.cells #[.int .i64 p0, .int .i64 p1, .int .i64 p2, .int .i64 p3, .int .i64 p4, .int .i64 p5, .int .i64 p6, .int .i64 p7, .int .i64 p8, .int .i64 p9, .int .i64 p10, .int .i64 p11, .func (.func g) #[] #[]] 68))
  have br := Lib.hid (br.out.more (.cells #[.int .i64 p0, .int .i64 p1, .int .i64 p2, .int .i64 p3, .int .i64 p4, .int .i64 p5, .int .i64 p6, .int .i64 p7, .int .i64 p8, .int .i64 p9, .int .i64 p10, .int .i64 p11, .func (.func g) #[] #[]] 68))
  have r1 := Lib.hid (r1.out.more (.cells #[.int .i64 p0, .int .i64 p1, .int .i64 p2, .int .i64 p3, .int .i64 p4, .int .i64 p5, .int .i64 p6, .int .i64 p7, .int .i64 p8, .int .i64 p9, .int .i64 p10, .int .i64 p11, .func (.func g) #[] #[]] 68))
  have r2 := Lib.hid (Bk.newAt w3 #[.int .i64 p0, .int .i64 p1, .int .i64 p2, .int .i64 p3, .int .i64 p4, .int .i64 p5, .int .i64 p6, .int .i64 p7, .int .i64 p8, .int .i64 p9, .int .i64 p10, .int .i64 p11, .func (.func g) #[] #[]] 68 (w3.heap.size) (by simp))
  have HB := Lib.hid (kept_more (o := (.cells #[.int .i64 p0, .int .i64 p1, .int .i64 p2, .int .i64 p3, .int .i64 p4, .int .i64 p5, .int .i64 p6, .int .i64 p7, .int .i64 p8, .int .i64 p9, .int .i64 p10, .int .i64 p11, .func (.func g) #[] #[]] 68)) HB.out)
  have r1_c0 := r1.out.cell 0
  have r1_c1 := r1.out.cell 1
  have r1_c2 := r1.out.cell 2
  have r1_c3 := r1.out.cell 3
  have r1_c4 := r1.out.cell 4
  have r1_c5 := r1.out.cell 5
  have r1_c6 := r1.out.cell 6
  have r1_c7 := r1.out.cell 7
  have r1_c8 := r1.out.cell 8
  have r1_c9 := r1.out.cell 9
  have r1_c10 := r1.out.cell 10
  have r1_c11 := r1.out.cell 11
  have r1_c12 := r1.out.cell 12
  have bd_c0 := bd.out.cell 0
  have bd_c1 := bd.out.cell 1
  have bd_c2 := bd.out.cell 2
  have hv1 := Lib.hid (fun W => valid_any _ a y m d W Hr1.out)
  rw [v1.out] at hv1
  go_wp2_with fail
  refine (hv1.out _).mono ?_
  rintro e w4 ⟨rfl, hb⟩
  have bd := Lib.hid (bd.out.next hb)
  have br := Lib.hid (br.out.next hb)
  have r1 := Lib.hid (r1.out.next hb)
  have r2 := Lib.hid (r2.out.next hb)
  have HB := Lib.hid (bel_next HB.out hb)
  clear r1_c0 r1_c1 r1_c2 r1_c3 r1_c4 r1_c5 r1_c6 r1_c7 r1_c8 r1_c9 r1_c10 r1_c11 r1_c12 bd_c0 bd_c1 bd_c2
  clear hb
  have r2_c0 := r2.out.cell 0
  have r2_c1 := r2.out.cell 1
  have r2_c2 := r2.out.cell 2
  have r2_c3 := r2.out.cell 3
  have r2_c4 := r2.out.cell 4
  have r2_c5 := r2.out.cell 5
  have r2_c6 := r2.out.cell 6
  have r2_c7 := r2.out.cell 7
  have r2_c8 := r2.out.cell 8
  have r2_c9 := r2.out.cell 9
  have r2_c10 := r2.out.cell 10
  have r2_c11 := r2.out.cell 11
  have r2_c12 := r2.out.cell 12
  have bd_c0 := bd.out.cell 0
  have bd_c1 := bd.out.cell 1
  have bd_c2 := bd.out.cell 2
  have hv2 := Lib.hid (fun W => valid_any _ b y m d W Hr2.out)
  rw [v2.out] at hv2
  go_wp2_with fail
  refine (hv2.out _).mono ?_
  rintro e w5 ⟨rfl, hb⟩
  have bd := Lib.hid (bd.out.next hb)
  have br := Lib.hid (br.out.next hb)
  have r1 := Lib.hid (r1.out.next hb)
  have r2 := Lib.hid (r2.out.next hb)
  have HB := Lib.hid (bel_next HB.out hb)
  clear r2_c0 r2_c1 r2_c2 r2_c3 r2_c4 r2_c5 r2_c6 r2_c7 r2_c8 r2_c9 r2_c10 r2_c11 r2_c12 bd_c0 bd_c1 bd_c2
  clear hb
  have br_c0 := br.out.cell 0
  have br_f0 := br.out.free 0
  have br_c1 := br.out.cell 1
  have br_f1 := br.out.free 1
  have br_c2 := br.out.cell 2
  have br_f2 := br.out.free 2
  go_wp2_with fail
  refine bodyPost_ret (v := .tuple #[.agg #[.int .i64 0, .int .i64 0, .int .i64 0], .int .i64 1, .int .i64 0]) (by simp [results, Try.results34, go_sem, br_c0, br_c1, br_c2]) rfl ⟨rfl, ?_⟩
  exact ((HB.out.setCell (by show w.heap.size ≤ w.heap.size + 1; omega) _).setCell (by show w.heap.size ≤ w.heap.size + 1; omega) _).setCell (by show w.heap.size ≤ w.heap.size + 1; omega) _

set_option maxRecDepth 100000 in
set_option maxHeartbeats 3200000 in
theorem map_ok (a b y m d : Int) (w : World) (ha : isCal a) (hb0 : isCal b) (v1 : Hid (ok a y m d = true)) (v2 : Hid (ok b y m d = true)) : Calls Try.prog 34 #[.int .i64 a, .int .i64 b, .agg #[.int .i64 y, .int .i64 m, .int .i64 d]] w fun e w' => e = .returned (.tuple #[.agg #[.int .i64 y, .int .i64 m, .int .i64 d], .int .i64 0, .int .i64 0]) ∧ Below w.heap.size w w' := by
  have h1 := Lib.hid (fun W => rulesOf_ok a W ha)
  clear ha
  have h2 := Lib.hid (fun W => rulesOf_ok b W hb0)
  clear hb0
  have HB := Lib.hid (Below.refl w.heap.size w)
  have bd := Lib.hid (Bk.newAt w #[.int .i64 y, .int .i64 m, .int .i64 d] 28 (w.heap.size) (by simp))
  have HB := Lib.hid (kept_more (o := (.cells #[.int .i64 y, .int .i64 m, .int .i64 d] 28)) HB.out)
  have bd := Lib.hid (bd.out.more (.cells #[.int .i64 0, .int .i64 0, .int .i64 0] 28))
  have br := Lib.hid (Bk.newAt (w.alloc (.cells #[.int .i64 y, .int .i64 m, .int .i64 d] 28)) #[.int .i64 0, .int .i64 0, .int .i64 0] 28 (w.heap.size + 1) (by simp))
  have HB := Lib.hid (kept_more (o := (.cells #[.int .i64 0, .int .i64 0, .int .i64 0] 28)) HB.out)
  go_enter Try.func34, Try.ntmps34
  go_wp2_with fail
  refine (h1.out _).mono ?_
  rintro e w2 ⟨r, rfl, hr, hb⟩
  obtain ⟨m0, m1, m2, m3, m4, m5, m6, m7, m8, m9, m10, m11, f, rfl⟩ := hr.form
  have Hr1 := Lib.hid hr
  clear hr
  have bd := Lib.hid (bd.out.next hb)
  have br := Lib.hid (br.out.next hb)
  have HB := Lib.hid (bel_next HB.out hb)
  clear hb
  have bd := Lib.hid (bd.out.more (.cells #[.int .i64 m0, .int .i64 m1, .int .i64 m2, .int .i64 m3, .int .i64 m4, .int .i64 m5, .int .i64 m6, .int .i64 m7, .int .i64 m8, .int .i64 m9, .int .i64 m10, .int .i64 m11, .func (.func f) #[] #[]] 68))
  have br := Lib.hid (br.out.more (.cells #[.int .i64 m0, .int .i64 m1, .int .i64 m2, .int .i64 m3, .int .i64 m4, .int .i64 m5, .int .i64 m6, .int .i64 m7, .int .i64 m8, .int .i64 m9, .int .i64 m10, .int .i64 m11, .func (.func f) #[] #[]] 68))
  have r1 := Lib.hid (Bk.newAt w2 #[.int .i64 m0, .int .i64 m1, .int .i64 m2, .int .i64 m3, .int .i64 m4, .int .i64 m5, .int .i64 m6, .int .i64 m7, .int .i64 m8, .int .i64 m9, .int .i64 m10, .int .i64 m11, .func (.func f) #[] #[]] 68 (w2.heap.size) (by simp))
  have HB := Lib.hid (kept_more (o := (.cells #[.int .i64 m0, .int .i64 m1, .int .i64 m2, .int .i64 m3, .int .i64 m4, .int .i64 m5, .int .i64 m6, .int .i64 m7, .int .i64 m8, .int .i64 m9, .int .i64 m10, .int .i64 m11, .func (.func f) #[] #[]] 68)) HB.out)
  go_wp2_with fail
  refine (h2.out _).mono ?_
  rintro e w3 ⟨r, rfl, hr, hb⟩
  obtain ⟨p0, p1, p2, p3, p4, p5, p6, p7, p8, p9, p10, p11, g, rfl⟩ := hr.form
  have Hr2 := Lib.hid hr
  clear hr
  have bd := Lib.hid (bd.out.next hb)
  have br := Lib.hid (br.out.next hb)
  have r1 := Lib.hid (r1.out.next hb)
  have HB := Lib.hid (bel_next HB.out hb)
  clear hb
  have bd := Lib.hid (bd.out.more (.cells #[.int .i64 p0, .int .i64 p1, .int .i64 p2, .int .i64 p3, .int .i64 p4, .int .i64 p5, .int .i64 p6, .int .i64 p7, .int .i64 p8, .int .i64 p9, .int .i64 p10, .int .i64 p11, .func (.func g) #[] #[]] 68))
  have br := Lib.hid (br.out.more (.cells #[.int .i64 p0, .int .i64 p1, .int .i64 p2, .int .i64 p3, .int .i64 p4, .int .i64 p5, .int .i64 p6, .int .i64 p7, .int .i64 p8, .int .i64 p9, .int .i64 p10, .int .i64 p11, .func (.func g) #[] #[]] 68))
  have r1 := Lib.hid (r1.out.more (.cells #[.int .i64 p0, .int .i64 p1, .int .i64 p2, .int .i64 p3, .int .i64 p4, .int .i64 p5, .int .i64 p6, .int .i64 p7, .int .i64 p8, .int .i64 p9, .int .i64 p10, .int .i64 p11, .func (.func g) #[] #[]] 68))
  have r2 := Lib.hid (Bk.newAt w3 #[.int .i64 p0, .int .i64 p1, .int .i64 p2, .int .i64 p3, .int .i64 p4, .int .i64 p5, .int .i64 p6, .int .i64 p7, .int .i64 p8, .int .i64 p9, .int .i64 p10, .int .i64 p11, .func (.func g) #[] #[]] 68 (w3.heap.size) (by simp))
  have HB := Lib.hid (kept_more (o := (.cells #[.int .i64 p0, .int .i64 p1, .int .i64 p2, .int .i64 p3, .int .i64 p4, .int .i64 p5, .int .i64 p6, .int .i64 p7, .int .i64 p8, .int .i64 p9, .int .i64 p10, .int .i64 p11, .func (.func g) #[] #[]] 68)) HB.out)
  have r1_c0 := r1.out.cell 0
  have r1_c1 := r1.out.cell 1
  have r1_c2 := r1.out.cell 2
  have r1_c3 := r1.out.cell 3
  have r1_c4 := r1.out.cell 4
  have r1_c5 := r1.out.cell 5
  have r1_c6 := r1.out.cell 6
  have r1_c7 := r1.out.cell 7
  have r1_c8 := r1.out.cell 8
  have r1_c9 := r1.out.cell 9
  have r1_c10 := r1.out.cell 10
  have r1_c11 := r1.out.cell 11
  have r1_c12 := r1.out.cell 12
  have bd_c0 := bd.out.cell 0
  have bd_c1 := bd.out.cell 1
  have bd_c2 := bd.out.cell 2
  have hv1 := Lib.hid (fun W => valid_any _ a y m d W Hr1.out)
  rw [v1.out] at hv1
  go_wp2_with fail
  refine (hv1.out _).mono ?_
  rintro e w4 ⟨rfl, hb⟩
  have bd := Lib.hid (bd.out.next hb)
  have br := Lib.hid (br.out.next hb)
  have r1 := Lib.hid (r1.out.next hb)
  have r2 := Lib.hid (r2.out.next hb)
  have HB := Lib.hid (bel_next HB.out hb)
  clear r1_c0 r1_c1 r1_c2 r1_c3 r1_c4 r1_c5 r1_c6 r1_c7 r1_c8 r1_c9 r1_c10 r1_c11 r1_c12 bd_c0 bd_c1 bd_c2
  clear hb
  have r2_c0 := r2.out.cell 0
  have r2_c1 := r2.out.cell 1
  have r2_c2 := r2.out.cell 2
  have r2_c3 := r2.out.cell 3
  have r2_c4 := r2.out.cell 4
  have r2_c5 := r2.out.cell 5
  have r2_c6 := r2.out.cell 6
  have r2_c7 := r2.out.cell 7
  have r2_c8 := r2.out.cell 8
  have r2_c9 := r2.out.cell 9
  have r2_c10 := r2.out.cell 10
  have r2_c11 := r2.out.cell 11
  have r2_c12 := r2.out.cell 12
  have bd_c0 := bd.out.cell 0
  have bd_c1 := bd.out.cell 1
  have bd_c2 := bd.out.cell 2
  have hv2 := Lib.hid (fun W => valid_any _ b y m d W Hr2.out)
  rw [v2.out] at hv2
  go_wp2_with fail
  refine (hv2.out _).mono ?_
  rintro e w5 ⟨rfl, hb⟩
  have bd := Lib.hid (bd.out.next hb)
  have br := Lib.hid (br.out.next hb)
  have r1 := Lib.hid (r1.out.next hb)
  have r2 := Lib.hid (r2.out.next hb)
  have HB := Lib.hid (bel_next HB.out hb)
  clear r2_c0 r2_c1 r2_c2 r2_c3 r2_c4 r2_c5 r2_c6 r2_c7 r2_c8 r2_c9 r2_c10 r2_c11 r2_c12 bd_c0 bd_c1 bd_c2
  clear hb
  have bd_c0 := bd.out.cell 0
  have bd_c1 := bd.out.cell 1
  have bd_c2 := bd.out.cell 2
  have br_c0 := br.out.cell 0
  have br_f0 := br.out.free 0
  have br_c1 := br.out.cell 1
  have br_f1 := br.out.free 1
  have br_c2 := br.out.cell 2
  have br_f2 := br.out.free 2
  go_wp2_with fail
  refine bodyPost_ret (v := .tuple #[.agg #[.int .i64 y, .int .i64 m, .int .i64 d], .int .i64 0, .int .i64 0]) (by simp [results, Try.results34, go_sem, br_c0, br_c1, br_c2]) rfl ⟨rfl, ?_⟩
  exact ((HB.out.setCell (by show w.heap.size ≤ w.heap.size + 1; omega) _).setCell (by show w.heap.size ≤ w.heap.size + 1; omega) _).setCell (by show w.heap.size ≤ w.heap.size + 1; omega) _
end Go.Proofs.Ythpeaeepcbbfcaa
