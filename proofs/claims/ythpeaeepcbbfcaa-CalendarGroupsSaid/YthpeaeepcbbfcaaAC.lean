/- AddMonths at every input; the law CalendarSums. -/
import Derived.Test.YthpeaeepcbbfcaaAB
import Derived.Laws.StructEq
namespace Go.Proofs.Ythpeaeepcbbfcaa
open Go.RowKit

/-- Where AddMonths has a date. -/
def AmOk (c y m d n : Int) : Prop := isCal c ∧ Ok c y m d ∧ -240000 ≤ n ∧ n ≤ 240000 ∧ -9999 ≤ amY y m n ∧ amY y m n ≤ 9999
/-- The error of AddMonths. -/
def amE (c y m d n : Int) : Int := if isCal c then if Ok c y m d then if n < -240000 ∨ 240000 < n then 2 else if -9999 ≤ amY y m n ∧ amY y m n ≤ 9999 then 0 else 21 else 21 else 20
theorem am_yes {c y m d n : Int} (h : AmOk c y m d n) : Hid (∀ W, Calls Try.prog 32 #[.int .i64 c, .agg #[.int .i64 y, .int .i64 m, .int .i64 d], .int .i64 n] W fun x w' => x = .returned (.tuple #[.agg #[.int .i64 (amY y m n), .int .i64 (amM y m n), .int .i64 (min d (dm c (amY y m n) (amM y m n)))], .int .i64 0]) ∧ Below W.heap.size W w') := by
  obtain ⟨hc, hk, n0, n1, r0, r1⟩ := h
  have v1 := Lib.hid (ok_true hk)
  obtain ⟨y0, y1, k0, k1, -, -⟩ := hk
  have t1 : decide (n < -240000) = false := by simpa using n0
  have t2 : decide (240000 < n) = false := by simpa using n1
  refine Lib.hid fun W => ?_
  by_cases h1 : m + n.tmod 12 < 1
  · exact am_a_yes c y m d n W hc v1 t1 t2 n0 n1 y0 y1 k0 k1 h1 ⟨r0, r1⟩
  · by_cases h2 : 12 < m + n.tmod 12
    · exact am_b_yes c y m d n W hc v1 t1 t2 n0 n1 y0 y1 k0 k1 h2 ⟨r0, r1⟩
    · exact am_c_yes c y m d n W hc v1 t1 t2 n0 n1 y0 y1 k0 k1 (by omega) (by omega) ⟨r0, r1⟩
theorem am_no {c y m d n : Int} (h : ¬ AmOk c y m d n) : (amE c y m d n != 0) = true ∧ Hid (∀ W, Calls Try.prog 32 #[.int .i64 c, .agg #[.int .i64 y, .int .i64 m, .int .i64 d], .int .i64 n] W fun x w' => x = .returned (.tuple #[.agg #[.int .i64 0, .int .i64 0, .int .i64 0], .int .i64 (amE c y m d n)]) ∧ Below W.heap.size W w') := by
  unfold amE
  by_cases hc : isCal c
  · rw [if_pos hc]
    by_cases hk : Ok c y m d
    · rw [if_pos hk]
      have v1 := Lib.hid (ok_true hk)
      have hk' := hk
      obtain ⟨y0, y1, k0, k1, -, -⟩ := hk
      by_cases hn : n < -240000 ∨ 240000 < n
      · rw [if_pos hn]
        refine ⟨by decide, Lib.hid fun W => ?_⟩
        by_cases hn1 : n < -240000
        · exact am_low c y m d n W hc v1 (by simpa using hn1)
        · exact am_high c y m d n W hc v1 (by simpa using hn1) (by simp; omega)
      · rw [if_neg hn]
        have hr : ¬ (-9999 ≤ amY y m n ∧ amY y m n ≤ 9999) := fun hr => h ⟨hc, hk', by omega, by omega, hr.1, hr.2⟩
        rw [if_neg hr]
        refine ⟨by decide, Lib.hid fun W => ?_⟩
        have t1 : decide (n < -240000) = false := by simp; omega
        have t2 : decide (240000 < n) = false := by simp; omega
        by_cases h1 : m + n.tmod 12 < 1
        · exact am_a_no c y m d n W hc v1 t1 t2 (by omega) (by omega) y0 y1 k0 k1 h1 hr
        · by_cases h2 : 12 < m + n.tmod 12
          · exact am_b_no c y m d n W hc v1 t1 t2 (by omega) (by omega) y0 y1 k0 k1 h2 hr
          · exact am_c_no c y m d n W hc v1 t1 t2 (by omega) (by omega) y0 y1 k0 k1 (by omega) (by omega) hr
    · rw [if_neg hk]
      exact ⟨by decide, Lib.hid fun W => am_bad c y m d n W hc (Lib.hid (decide_eq_false hk))⟩
  · rw [if_neg hc]
    exact ⟨by decide, Lib.hid fun W => am_nocal c y m d n W hc⟩

set_option maxRecDepth 100000 in
set_option maxHeartbeats 3200000 in
theorem sums_err1 (c y m d a b e1 e2 p0 p1 p2 : Int) (w : World) (h1 : Hid (∀ W, Calls Try.prog 32 #[.int .i64 c, .agg #[.int .i64 y, .int .i64 m, .int .i64 d], .int .i64 a] W fun x w' => x = .returned (.tuple #[.agg #[.int .i64 0, .int .i64 0, .int .i64 0], .int .i64 e1]) ∧ Below W.heap.size W w')) (h2 : Hid (∀ W, Calls Try.prog 32 #[.int .i64 c, .agg #[.int .i64 0, .int .i64 0, .int .i64 0], .int .i64 b] W fun x w' => x = .returned (.tuple #[.agg #[.int .i64 p0, .int .i64 p1, .int .i64 p2], .int .i64 e2]) ∧ Below W.heap.size W w')) (t1 : (e1 != 0) = true) : Calls Try.prog 12 #[.int .i64 c, .agg #[.int .i64 y, .int .i64 m, .int .i64 d], .agg #[.int .i64 a, .int .i64 b]] w (LawPost w) := by
  have hs := Lib.hid sane_any
  have HB := Lib.hid (Below.refl w.heap.size w)
  have bd := Lib.hid (Bk.newAt w #[.int .i64 y, .int .i64 m, .int .i64 d] 28 (w.heap.size) (by simp))
  have HB := Lib.hid (kept_more (o := (.cells #[.int .i64 y, .int .i64 m, .int .i64 d] 28)) HB.out)
  have bd := Lib.hid (bd.out.more (.cells #[.int .i64 a, .int .i64 b] 59))
  have bp := Lib.hid (Bk.newAt (w.alloc (.cells #[.int .i64 y, .int .i64 m, .int .i64 d] 28)) #[.int .i64 a, .int .i64 b] 59 (w.heap.size + 1) (by simp))
  have HB := Lib.hid (kept_more (o := (.cells #[.int .i64 a, .int .i64 b] 59)) HB.out)
  go_enter Try.func12, Try.ntmps12
  go_wp2_with fail
  refine (h1.out _).mono ?_
  rintro e w2 ⟨rfl, hb⟩
  have bd := Lib.hid (bd.out.next hb)
  have bp := Lib.hid (bp.out.next hb)
  have HB := Lib.hid (bel_next HB.out hb)
  clear hb
  have bd := Lib.hid (bd.out.more (.cells #[.int .i64 0, .int .i64 0, .int .i64 0] 28))
  have bp := Lib.hid (bp.out.more (.cells #[.int .i64 0, .int .i64 0, .int .i64 0] 28))
  have bx := Lib.hid (Bk.newAt w2 #[.int .i64 0, .int .i64 0, .int .i64 0] 28 (w2.heap.size) (by simp))
  have HB := Lib.hid (kept_more (o := (.cells #[.int .i64 0, .int .i64 0, .int .i64 0] 28)) HB.out)
  have bd_c0 := bd.out.cell 0
  have bd_c1 := bd.out.cell 1
  have bd_c2 := bd.out.cell 2
  have bp_c0 := bp.out.cell 0
  have bp_c1 := bp.out.cell 1
  have bx_c0 := bx.out.cell 0
  have bx_c1 := bx.out.cell 1
  have bx_c2 := bx.out.cell 2
  go_wp2_with fail
  refine (h2.out _).mono ?_
  rintro e w3 ⟨rfl, hb⟩
  have bd := Lib.hid (bd.out.next hb)
  have bp := Lib.hid (bp.out.next hb)
  have bx := Lib.hid (bx.out.next hb)
  have HB := Lib.hid (bel_next HB.out hb)
  clear bd_c0 bd_c1 bd_c2 bp_c0 bp_c1 bx_c0 bx_c1 bx_c2
  clear hb
  have bd := Lib.hid (bd.out.more (.cells #[.int .i64 p0, .int .i64 p1, .int .i64 p2] 28))
  have bp := Lib.hid (bp.out.more (.cells #[.int .i64 p0, .int .i64 p1, .int .i64 p2] 28))
  have bx := Lib.hid (bx.out.more (.cells #[.int .i64 p0, .int .i64 p1, .int .i64 p2] 28))
  have bq := Lib.hid (Bk.newAt w3 #[.int .i64 p0, .int .i64 p1, .int .i64 p2] 28 (w3.heap.size) (by simp))
  have HB := Lib.hid (kept_more (o := (.cells #[.int .i64 p0, .int .i64 p1, .int .i64 p2] 28)) HB.out)
  have bd_c0 := bd.out.cell 0
  have bd_c1 := bd.out.cell 1
  have bd_c2 := bd.out.cell 2
  have bp_c0 := bp.out.cell 0
  have bp_c1 := bp.out.cell 1
  have bq_c0 := bq.out.cell 0
  have bq_c1 := bq.out.cell 1
  have bq_c2 := bq.out.cell 2
  go_wp2_with fail
  refine (hs.out _).mono ?_
  rintro e w4 ⟨rfl, hb⟩
  have bd := Lib.hid (bd.out.next hb)
  have bp := Lib.hid (bp.out.next hb)
  have bx := Lib.hid (bx.out.next hb)
  have bq := Lib.hid (bq.out.next hb)
  have HB := Lib.hid (bel_next HB.out hb)
  clear bd_c0 bd_c1 bd_c2 bp_c0 bp_c1 bq_c0 bq_c1 bq_c2
  clear hb
  go_wp2_with fail
  go_ret
  exact ⟨rfl, HB.out⟩

set_option maxRecDepth 100000 in
set_option maxHeartbeats 3200000 in
theorem sums_err2 (c y m d a b e2 p0 p1 p2 q0 q1 q2 : Int) (w : World) (h1 : Hid (∀ W, Calls Try.prog 32 #[.int .i64 c, .agg #[.int .i64 y, .int .i64 m, .int .i64 d], .int .i64 a] W fun x w' => x = .returned (.tuple #[.agg #[.int .i64 p0, .int .i64 p1, .int .i64 p2], .int .i64 0]) ∧ Below W.heap.size W w')) (h2 : Hid (∀ W, Calls Try.prog 32 #[.int .i64 c, .agg #[.int .i64 p0, .int .i64 p1, .int .i64 p2], .int .i64 b] W fun x w' => x = .returned (.tuple #[.agg #[.int .i64 q0, .int .i64 q1, .int .i64 q2], .int .i64 e2]) ∧ Below W.heap.size W w')) (t1 : (e2 != 0) = true) : Calls Try.prog 12 #[.int .i64 c, .agg #[.int .i64 y, .int .i64 m, .int .i64 d], .agg #[.int .i64 a, .int .i64 b]] w (LawPost w) := by
  have hs := Lib.hid sane_any
  have HB := Lib.hid (Below.refl w.heap.size w)
  have bd := Lib.hid (Bk.newAt w #[.int .i64 y, .int .i64 m, .int .i64 d] 28 (w.heap.size) (by simp))
  have HB := Lib.hid (kept_more (o := (.cells #[.int .i64 y, .int .i64 m, .int .i64 d] 28)) HB.out)
  have bd := Lib.hid (bd.out.more (.cells #[.int .i64 a, .int .i64 b] 59))
  have bp := Lib.hid (Bk.newAt (w.alloc (.cells #[.int .i64 y, .int .i64 m, .int .i64 d] 28)) #[.int .i64 a, .int .i64 b] 59 (w.heap.size + 1) (by simp))
  have HB := Lib.hid (kept_more (o := (.cells #[.int .i64 a, .int .i64 b] 59)) HB.out)
  go_enter Try.func12, Try.ntmps12
  go_wp2_with fail
  refine (h1.out _).mono ?_
  rintro e w2 ⟨rfl, hb⟩
  have bd := Lib.hid (bd.out.next hb)
  have bp := Lib.hid (bp.out.next hb)
  have HB := Lib.hid (bel_next HB.out hb)
  clear hb
  have bd := Lib.hid (bd.out.more (.cells #[.int .i64 p0, .int .i64 p1, .int .i64 p2] 28))
  have bp := Lib.hid (bp.out.more (.cells #[.int .i64 p0, .int .i64 p1, .int .i64 p2] 28))
  have bx := Lib.hid (Bk.newAt w2 #[.int .i64 p0, .int .i64 p1, .int .i64 p2] 28 (w2.heap.size) (by simp))
  have HB := Lib.hid (kept_more (o := (.cells #[.int .i64 p0, .int .i64 p1, .int .i64 p2] 28)) HB.out)
  have bd_c0 := bd.out.cell 0
  have bd_c1 := bd.out.cell 1
  have bd_c2 := bd.out.cell 2
  have bp_c0 := bp.out.cell 0
  have bp_c1 := bp.out.cell 1
  have bx_c0 := bx.out.cell 0
  have bx_c1 := bx.out.cell 1
  have bx_c2 := bx.out.cell 2
  go_wp2_with fail
  refine (h2.out _).mono ?_
  rintro e w3 ⟨rfl, hb⟩
  have bd := Lib.hid (bd.out.next hb)
  have bp := Lib.hid (bp.out.next hb)
  have bx := Lib.hid (bx.out.next hb)
  have HB := Lib.hid (bel_next HB.out hb)
  clear bd_c0 bd_c1 bd_c2 bp_c0 bp_c1 bx_c0 bx_c1 bx_c2
  clear hb
  have bd := Lib.hid (bd.out.more (.cells #[.int .i64 q0, .int .i64 q1, .int .i64 q2] 28))
  have bp := Lib.hid (bp.out.more (.cells #[.int .i64 q0, .int .i64 q1, .int .i64 q2] 28))
  have bx := Lib.hid (bx.out.more (.cells #[.int .i64 q0, .int .i64 q1, .int .i64 q2] 28))
  have bq := Lib.hid (Bk.newAt w3 #[.int .i64 q0, .int .i64 q1, .int .i64 q2] 28 (w3.heap.size) (by simp))
  have HB := Lib.hid (kept_more (o := (.cells #[.int .i64 q0, .int .i64 q1, .int .i64 q2] 28)) HB.out)
  have bd_c0 := bd.out.cell 0
  have bd_c1 := bd.out.cell 1
  have bd_c2 := bd.out.cell 2
  have bp_c0 := bp.out.cell 0
  have bp_c1 := bp.out.cell 1
  have bq_c0 := bq.out.cell 0
  have bq_c1 := bq.out.cell 1
  have bq_c2 := bq.out.cell 2
  go_wp2_with fail
  refine (hs.out _).mono ?_
  rintro e w4 ⟨rfl, hb⟩
  have bd := Lib.hid (bd.out.next hb)
  have bp := Lib.hid (bp.out.next hb)
  have bx := Lib.hid (bx.out.next hb)
  have bq := Lib.hid (bq.out.next hb)
  have HB := Lib.hid (bel_next HB.out hb)
  clear bd_c0 bd_c1 bd_c2 bp_c0 bp_c1 bq_c0 bq_c1 bq_c2
  clear hb
  go_wp2_with fail
  go_ret
  exact ⟨rfl, HB.out⟩

set_option maxRecDepth 100000 in
set_option maxHeartbeats 3200000 in
theorem sums_28 (c y m d a b p0 p1 p2 q0 q1 q2 : Int) (w : World) (h1 : Hid (∀ W, Calls Try.prog 32 #[.int .i64 c, .agg #[.int .i64 y, .int .i64 m, .int .i64 d], .int .i64 a] W fun x w' => x = .returned (.tuple #[.agg #[.int .i64 p0, .int .i64 p1, .int .i64 p2], .int .i64 0]) ∧ Below W.heap.size W w')) (h2 : Hid (∀ W, Calls Try.prog 32 #[.int .i64 c, .agg #[.int .i64 p0, .int .i64 p1, .int .i64 p2], .int .i64 b] W fun x w' => x = .returned (.tuple #[.agg #[.int .i64 q0, .int .i64 q1, .int .i64 q2], .int .i64 0]) ∧ Below W.heap.size W w')) (t1 : decide (28 < d) = true) : Calls Try.prog 12 #[.int .i64 c, .agg #[.int .i64 y, .int .i64 m, .int .i64 d], .agg #[.int .i64 a, .int .i64 b]] w (LawPost w) := by
  have hs := Lib.hid sane_any
  have HB := Lib.hid (Below.refl w.heap.size w)
  have bd := Lib.hid (Bk.newAt w #[.int .i64 y, .int .i64 m, .int .i64 d] 28 (w.heap.size) (by simp))
  have HB := Lib.hid (kept_more (o := (.cells #[.int .i64 y, .int .i64 m, .int .i64 d] 28)) HB.out)
  have bd := Lib.hid (bd.out.more (.cells #[.int .i64 a, .int .i64 b] 59))
  have bp := Lib.hid (Bk.newAt (w.alloc (.cells #[.int .i64 y, .int .i64 m, .int .i64 d] 28)) #[.int .i64 a, .int .i64 b] 59 (w.heap.size + 1) (by simp))
  have HB := Lib.hid (kept_more (o := (.cells #[.int .i64 a, .int .i64 b] 59)) HB.out)
  go_enter Try.func12, Try.ntmps12
  go_wp2_with fail
  refine (h1.out _).mono ?_
  rintro e w2 ⟨rfl, hb⟩
  have bd := Lib.hid (bd.out.next hb)
  have bp := Lib.hid (bp.out.next hb)
  have HB := Lib.hid (bel_next HB.out hb)
  clear hb
  have bd := Lib.hid (bd.out.more (.cells #[.int .i64 p0, .int .i64 p1, .int .i64 p2] 28))
  have bp := Lib.hid (bp.out.more (.cells #[.int .i64 p0, .int .i64 p1, .int .i64 p2] 28))
  have bx := Lib.hid (Bk.newAt w2 #[.int .i64 p0, .int .i64 p1, .int .i64 p2] 28 (w2.heap.size) (by simp))
  have HB := Lib.hid (kept_more (o := (.cells #[.int .i64 p0, .int .i64 p1, .int .i64 p2] 28)) HB.out)
  have bd_c0 := bd.out.cell 0
  have bd_c1 := bd.out.cell 1
  have bd_c2 := bd.out.cell 2
  have bp_c0 := bp.out.cell 0
  have bp_c1 := bp.out.cell 1
  have bx_c0 := bx.out.cell 0
  have bx_c1 := bx.out.cell 1
  have bx_c2 := bx.out.cell 2
  go_wp2_with fail
  refine (h2.out _).mono ?_
  rintro e w3 ⟨rfl, hb⟩
  have bd := Lib.hid (bd.out.next hb)
  have bp := Lib.hid (bp.out.next hb)
  have bx := Lib.hid (bx.out.next hb)
  have HB := Lib.hid (bel_next HB.out hb)
  clear bd_c0 bd_c1 bd_c2 bp_c0 bp_c1 bx_c0 bx_c1 bx_c2
  clear hb
  have bd := Lib.hid (bd.out.more (.cells #[.int .i64 q0, .int .i64 q1, .int .i64 q2] 28))
  have bp := Lib.hid (bp.out.more (.cells #[.int .i64 q0, .int .i64 q1, .int .i64 q2] 28))
  have bx := Lib.hid (bx.out.more (.cells #[.int .i64 q0, .int .i64 q1, .int .i64 q2] 28))
  have bq := Lib.hid (Bk.newAt w3 #[.int .i64 q0, .int .i64 q1, .int .i64 q2] 28 (w3.heap.size) (by simp))
  have HB := Lib.hid (kept_more (o := (.cells #[.int .i64 q0, .int .i64 q1, .int .i64 q2] 28)) HB.out)
  have bd_c0 := bd.out.cell 0
  have bd_c1 := bd.out.cell 1
  have bd_c2 := bd.out.cell 2
  have bp_c0 := bp.out.cell 0
  have bp_c1 := bp.out.cell 1
  have bq_c0 := bq.out.cell 0
  have bq_c1 := bq.out.cell 1
  have bq_c2 := bq.out.cell 2
  go_wp2_with fail
  refine (hs.out _).mono ?_
  rintro e w4 ⟨rfl, hb⟩
  have bd := Lib.hid (bd.out.next hb)
  have bp := Lib.hid (bp.out.next hb)
  have bx := Lib.hid (bx.out.next hb)
  have bq := Lib.hid (bq.out.next hb)
  have HB := Lib.hid (bel_next HB.out hb)
  clear bd_c0 bd_c1 bd_c2 bp_c0 bp_c1 bq_c0 bq_c1 bq_c2
  clear hb
  go_wp2_with fail
  go_ret
  exact ⟨rfl, HB.out⟩

set_option maxRecDepth 100000 in
set_option maxHeartbeats 3200000 in
theorem sums_low (c y m d a b p0 p1 p2 q0 q1 q2 : Int) (w : World) (h1 : Hid (∀ W, Calls Try.prog 32 #[.int .i64 c, .agg #[.int .i64 y, .int .i64 m, .int .i64 d], .int .i64 a] W fun x w' => x = .returned (.tuple #[.agg #[.int .i64 p0, .int .i64 p1, .int .i64 p2], .int .i64 0]) ∧ Below W.heap.size W w')) (h2 : Hid (∀ W, Calls Try.prog 32 #[.int .i64 c, .agg #[.int .i64 p0, .int .i64 p1, .int .i64 p2], .int .i64 b] W fun x w' => x = .returned (.tuple #[.agg #[.int .i64 q0, .int .i64 q1, .int .i64 q2], .int .i64 0]) ∧ Below W.heap.size W w')) (a0 : -240000 ≤ a) (a1 : a ≤ 240000) (b0 : -240000 ≤ b) (b1 : b ≤ 240000) (t1 : decide (28 < d) = false) (t2 : decide (a + b < -240000) = true) : Calls Try.prog 12 #[.int .i64 c, .agg #[.int .i64 y, .int .i64 m, .int .i64 d], .agg #[.int .i64 a, .int .i64 b]] w (LawPost w) := by
  have hs := Lib.hid sane_any
  have HB := Lib.hid (Below.refl w.heap.size w)
  have bd := Lib.hid (Bk.newAt w #[.int .i64 y, .int .i64 m, .int .i64 d] 28 (w.heap.size) (by simp))
  have HB := Lib.hid (kept_more (o := (.cells #[.int .i64 y, .int .i64 m, .int .i64 d] 28)) HB.out)
  have bd := Lib.hid (bd.out.more (.cells #[.int .i64 a, .int .i64 b] 59))
  have bp := Lib.hid (Bk.newAt (w.alloc (.cells #[.int .i64 y, .int .i64 m, .int .i64 d] 28)) #[.int .i64 a, .int .i64 b] 59 (w.heap.size + 1) (by simp))
  have HB := Lib.hid (kept_more (o := (.cells #[.int .i64 a, .int .i64 b] 59)) HB.out)
  go_enter Try.func12, Try.ntmps12
  go_wp2_with fail
  refine (h1.out _).mono ?_
  rintro e w2 ⟨rfl, hb⟩
  have bd := Lib.hid (bd.out.next hb)
  have bp := Lib.hid (bp.out.next hb)
  have HB := Lib.hid (bel_next HB.out hb)
  clear hb
  have bd := Lib.hid (bd.out.more (.cells #[.int .i64 p0, .int .i64 p1, .int .i64 p2] 28))
  have bp := Lib.hid (bp.out.more (.cells #[.int .i64 p0, .int .i64 p1, .int .i64 p2] 28))
  have bx := Lib.hid (Bk.newAt w2 #[.int .i64 p0, .int .i64 p1, .int .i64 p2] 28 (w2.heap.size) (by simp))
  have HB := Lib.hid (kept_more (o := (.cells #[.int .i64 p0, .int .i64 p1, .int .i64 p2] 28)) HB.out)
  have bd_c0 := bd.out.cell 0
  have bd_c1 := bd.out.cell 1
  have bd_c2 := bd.out.cell 2
  have bp_c0 := bp.out.cell 0
  have bp_c1 := bp.out.cell 1
  have bx_c0 := bx.out.cell 0
  have bx_c1 := bx.out.cell 1
  have bx_c2 := bx.out.cell 2
  go_wp2_with fail
  refine (h2.out _).mono ?_
  rintro e w3 ⟨rfl, hb⟩
  have bd := Lib.hid (bd.out.next hb)
  have bp := Lib.hid (bp.out.next hb)
  have bx := Lib.hid (bx.out.next hb)
  have HB := Lib.hid (bel_next HB.out hb)
  clear bd_c0 bd_c1 bd_c2 bp_c0 bp_c1 bx_c0 bx_c1 bx_c2
  clear hb
  have bd := Lib.hid (bd.out.more (.cells #[.int .i64 q0, .int .i64 q1, .int .i64 q2] 28))
  have bp := Lib.hid (bp.out.more (.cells #[.int .i64 q0, .int .i64 q1, .int .i64 q2] 28))
  have bx := Lib.hid (bx.out.more (.cells #[.int .i64 q0, .int .i64 q1, .int .i64 q2] 28))
  have bq := Lib.hid (Bk.newAt w3 #[.int .i64 q0, .int .i64 q1, .int .i64 q2] 28 (w3.heap.size) (by simp))
  have HB := Lib.hid (kept_more (o := (.cells #[.int .i64 q0, .int .i64 q1, .int .i64 q2] 28)) HB.out)
  have bd_c0 := bd.out.cell 0
  have bd_c1 := bd.out.cell 1
  have bd_c2 := bd.out.cell 2
  have bp_c0 := bp.out.cell 0
  have bp_c1 := bp.out.cell 1
  have bq_c0 := bq.out.cell 0
  have bq_c1 := bq.out.cell 1
  have bq_c2 := bq.out.cell 2
  go_wp2_with fail
  refine (hs.out _).mono ?_
  rintro e w4 ⟨rfl, hb⟩
  have bd := Lib.hid (bd.out.next hb)
  have bp := Lib.hid (bp.out.next hb)
  have bx := Lib.hid (bx.out.next hb)
  have bq := Lib.hid (bq.out.next hb)
  have HB := Lib.hid (bel_next HB.out hb)
  clear bd_c0 bd_c1 bd_c2 bp_c0 bp_c1 bq_c0 bq_c1 bq_c2
  clear hb
  go_wp2_with fail
  go_ret
  exact ⟨rfl, HB.out⟩

set_option maxRecDepth 100000 in
set_option maxHeartbeats 3200000 in
theorem sums_high (c y m d a b p0 p1 p2 q0 q1 q2 : Int) (w : World) (h1 : Hid (∀ W, Calls Try.prog 32 #[.int .i64 c, .agg #[.int .i64 y, .int .i64 m, .int .i64 d], .int .i64 a] W fun x w' => x = .returned (.tuple #[.agg #[.int .i64 p0, .int .i64 p1, .int .i64 p2], .int .i64 0]) ∧ Below W.heap.size W w')) (h2 : Hid (∀ W, Calls Try.prog 32 #[.int .i64 c, .agg #[.int .i64 p0, .int .i64 p1, .int .i64 p2], .int .i64 b] W fun x w' => x = .returned (.tuple #[.agg #[.int .i64 q0, .int .i64 q1, .int .i64 q2], .int .i64 0]) ∧ Below W.heap.size W w')) (a0 : -240000 ≤ a) (a1 : a ≤ 240000) (b0 : -240000 ≤ b) (b1 : b ≤ 240000) (t1 : decide (28 < d) = false) (t2 : decide (a + b < -240000) = false) (t3 : decide (240000 < a + b) = true) : Calls Try.prog 12 #[.int .i64 c, .agg #[.int .i64 y, .int .i64 m, .int .i64 d], .agg #[.int .i64 a, .int .i64 b]] w (LawPost w) := by
  have hs := Lib.hid sane_any
  have HB := Lib.hid (Below.refl w.heap.size w)
  have bd := Lib.hid (Bk.newAt w #[.int .i64 y, .int .i64 m, .int .i64 d] 28 (w.heap.size) (by simp))
  have HB := Lib.hid (kept_more (o := (.cells #[.int .i64 y, .int .i64 m, .int .i64 d] 28)) HB.out)
  have bd := Lib.hid (bd.out.more (.cells #[.int .i64 a, .int .i64 b] 59))
  have bp := Lib.hid (Bk.newAt (w.alloc (.cells #[.int .i64 y, .int .i64 m, .int .i64 d] 28)) #[.int .i64 a, .int .i64 b] 59 (w.heap.size + 1) (by simp))
  have HB := Lib.hid (kept_more (o := (.cells #[.int .i64 a, .int .i64 b] 59)) HB.out)
  go_enter Try.func12, Try.ntmps12
  go_wp2_with fail
  refine (h1.out _).mono ?_
  rintro e w2 ⟨rfl, hb⟩
  have bd := Lib.hid (bd.out.next hb)
  have bp := Lib.hid (bp.out.next hb)
  have HB := Lib.hid (bel_next HB.out hb)
  clear hb
  have bd := Lib.hid (bd.out.more (.cells #[.int .i64 p0, .int .i64 p1, .int .i64 p2] 28))
  have bp := Lib.hid (bp.out.more (.cells #[.int .i64 p0, .int .i64 p1, .int .i64 p2] 28))
  have bx := Lib.hid (Bk.newAt w2 #[.int .i64 p0, .int .i64 p1, .int .i64 p2] 28 (w2.heap.size) (by simp))
  have HB := Lib.hid (kept_more (o := (.cells #[.int .i64 p0, .int .i64 p1, .int .i64 p2] 28)) HB.out)
  have bd_c0 := bd.out.cell 0
  have bd_c1 := bd.out.cell 1
  have bd_c2 := bd.out.cell 2
  have bp_c0 := bp.out.cell 0
  have bp_c1 := bp.out.cell 1
  have bx_c0 := bx.out.cell 0
  have bx_c1 := bx.out.cell 1
  have bx_c2 := bx.out.cell 2
  go_wp2_with fail
  refine (h2.out _).mono ?_
  rintro e w3 ⟨rfl, hb⟩
  have bd := Lib.hid (bd.out.next hb)
  have bp := Lib.hid (bp.out.next hb)
  have bx := Lib.hid (bx.out.next hb)
  have HB := Lib.hid (bel_next HB.out hb)
  clear bd_c0 bd_c1 bd_c2 bp_c0 bp_c1 bx_c0 bx_c1 bx_c2
  clear hb
  have bd := Lib.hid (bd.out.more (.cells #[.int .i64 q0, .int .i64 q1, .int .i64 q2] 28))
  have bp := Lib.hid (bp.out.more (.cells #[.int .i64 q0, .int .i64 q1, .int .i64 q2] 28))
  have bx := Lib.hid (bx.out.more (.cells #[.int .i64 q0, .int .i64 q1, .int .i64 q2] 28))
  have bq := Lib.hid (Bk.newAt w3 #[.int .i64 q0, .int .i64 q1, .int .i64 q2] 28 (w3.heap.size) (by simp))
  have HB := Lib.hid (kept_more (o := (.cells #[.int .i64 q0, .int .i64 q1, .int .i64 q2] 28)) HB.out)
  have bd_c0 := bd.out.cell 0
  have bd_c1 := bd.out.cell 1
  have bd_c2 := bd.out.cell 2
  have bp_c0 := bp.out.cell 0
  have bp_c1 := bp.out.cell 1
  have bq_c0 := bq.out.cell 0
  have bq_c1 := bq.out.cell 1
  have bq_c2 := bq.out.cell 2
  go_wp2_with fail
  refine (hs.out _).mono ?_
  rintro e w4 ⟨rfl, hb⟩
  have bd := Lib.hid (bd.out.next hb)
  have bp := Lib.hid (bp.out.next hb)
  have bx := Lib.hid (bx.out.next hb)
  have bq := Lib.hid (bq.out.next hb)
  have HB := Lib.hid (bel_next HB.out hb)
  clear bd_c0 bd_c1 bd_c2 bp_c0 bp_c1 bq_c0 bq_c1 bq_c2
  clear hb
  go_wp2_with fail
  go_ret
  exact ⟨rfl, HB.out⟩

set_option maxRecDepth 100000 in
set_option maxHeartbeats 3200000 in
theorem sums_ok (c y m d a b p0 p1 p2 q0 q1 q2 : Int) (w : World) (h1 : Hid (∀ W, Calls Try.prog 32 #[.int .i64 c, .agg #[.int .i64 y, .int .i64 m, .int .i64 d], .int .i64 a] W fun x w' => x = .returned (.tuple #[.agg #[.int .i64 p0, .int .i64 p1, .int .i64 p2], .int .i64 0]) ∧ Below W.heap.size W w')) (h2 : Hid (∀ W, Calls Try.prog 32 #[.int .i64 c, .agg #[.int .i64 p0, .int .i64 p1, .int .i64 p2], .int .i64 b] W fun x w' => x = .returned (.tuple #[.agg #[.int .i64 q0, .int .i64 q1, .int .i64 q2], .int .i64 0]) ∧ Below W.heap.size W w')) (a0 : -240000 ≤ a) (a1 : a ≤ 240000) (b0 : -240000 ≤ b) (b1 : b ≤ 240000) (t1 : decide (28 < d) = false) (t2 : decide (a + b < -240000) = false) (t3 : decide (240000 < a + b) = false) (h3 : Hid (∀ W, Calls Try.prog 32 #[.int .i64 c, .agg #[.int .i64 y, .int .i64 m, .int .i64 d], .int .i64 (a + b)] W fun x w' => x = .returned (.tuple #[.agg #[.int .i64 q0, .int .i64 q1, .int .i64 q2], .int .i64 0]) ∧ Below W.heap.size W w')) : Calls Try.prog 12 #[.int .i64 c, .agg #[.int .i64 y, .int .i64 m, .int .i64 d], .agg #[.int .i64 a, .int .i64 b]] w (LawPost w) := by
  have hs := Lib.hid sane_any
  have HB := Lib.hid (Below.refl w.heap.size w)
  have bd := Lib.hid (Bk.newAt w #[.int .i64 y, .int .i64 m, .int .i64 d] 28 (w.heap.size) (by simp))
  have HB := Lib.hid (kept_more (o := (.cells #[.int .i64 y, .int .i64 m, .int .i64 d] 28)) HB.out)
  have bd := Lib.hid (bd.out.more (.cells #[.int .i64 a, .int .i64 b] 59))
  have bp := Lib.hid (Bk.newAt (w.alloc (.cells #[.int .i64 y, .int .i64 m, .int .i64 d] 28)) #[.int .i64 a, .int .i64 b] 59 (w.heap.size + 1) (by simp))
  have HB := Lib.hid (kept_more (o := (.cells #[.int .i64 a, .int .i64 b] 59)) HB.out)
  go_enter Try.func12, Try.ntmps12
  go_wp2_with fail
  refine (h1.out _).mono ?_
  rintro e w2 ⟨rfl, hb⟩
  have bd := Lib.hid (bd.out.next hb)
  have bp := Lib.hid (bp.out.next hb)
  have HB := Lib.hid (bel_next HB.out hb)
  clear hb
  have bd := Lib.hid (bd.out.more (.cells #[.int .i64 p0, .int .i64 p1, .int .i64 p2] 28))
  have bp := Lib.hid (bp.out.more (.cells #[.int .i64 p0, .int .i64 p1, .int .i64 p2] 28))
  have bx := Lib.hid (Bk.newAt w2 #[.int .i64 p0, .int .i64 p1, .int .i64 p2] 28 (w2.heap.size) (by simp))
  have HB := Lib.hid (kept_more (o := (.cells #[.int .i64 p0, .int .i64 p1, .int .i64 p2] 28)) HB.out)
  have bd_c0 := bd.out.cell 0
  have bd_c1 := bd.out.cell 1
  have bd_c2 := bd.out.cell 2
  have bp_c0 := bp.out.cell 0
  have bp_c1 := bp.out.cell 1
  have bx_c0 := bx.out.cell 0
  have bx_c1 := bx.out.cell 1
  have bx_c2 := bx.out.cell 2
  go_wp2_with fail
  refine (h2.out _).mono ?_
  rintro e w3 ⟨rfl, hb⟩
  have bd := Lib.hid (bd.out.next hb)
  have bp := Lib.hid (bp.out.next hb)
  have bx := Lib.hid (bx.out.next hb)
  have HB := Lib.hid (bel_next HB.out hb)
  clear bd_c0 bd_c1 bd_c2 bp_c0 bp_c1 bx_c0 bx_c1 bx_c2
  clear hb
  have bd := Lib.hid (bd.out.more (.cells #[.int .i64 q0, .int .i64 q1, .int .i64 q2] 28))
  have bp := Lib.hid (bp.out.more (.cells #[.int .i64 q0, .int .i64 q1, .int .i64 q2] 28))
  have bx := Lib.hid (bx.out.more (.cells #[.int .i64 q0, .int .i64 q1, .int .i64 q2] 28))
  have bq := Lib.hid (Bk.newAt w3 #[.int .i64 q0, .int .i64 q1, .int .i64 q2] 28 (w3.heap.size) (by simp))
  have HB := Lib.hid (kept_more (o := (.cells #[.int .i64 q0, .int .i64 q1, .int .i64 q2] 28)) HB.out)
  have bd_c0 := bd.out.cell 0
  have bd_c1 := bd.out.cell 1
  have bd_c2 := bd.out.cell 2
  have bp_c0 := bp.out.cell 0
  have bp_c1 := bp.out.cell 1
  have bq_c0 := bq.out.cell 0
  have bq_c1 := bq.out.cell 1
  have bq_c2 := bq.out.cell 2
  go_wp2_with fail
  refine (h3.out _).mono ?_
  rintro e w4 ⟨rfl, hb⟩
  have bd := Lib.hid (bd.out.next hb)
  have bp := Lib.hid (bp.out.next hb)
  have bx := Lib.hid (bx.out.next hb)
  have bq := Lib.hid (bq.out.next hb)
  have HB := Lib.hid (bel_next HB.out hb)
  clear bd_c0 bd_c1 bd_c2 bp_c0 bp_c1 bq_c0 bq_c1 bq_c2
  clear hb
  have bd := Lib.hid (bd.out.more (.cells #[.int .i64 q0, .int .i64 q1, .int .i64 q2] 28))
  have bp := Lib.hid (bp.out.more (.cells #[.int .i64 q0, .int .i64 q1, .int .i64 q2] 28))
  have bx := Lib.hid (bx.out.more (.cells #[.int .i64 q0, .int .i64 q1, .int .i64 q2] 28))
  have bq := Lib.hid (bq.out.more (.cells #[.int .i64 q0, .int .i64 q1, .int .i64 q2] 28))
  have bz := Lib.hid (Bk.newAt w4 #[.int .i64 q0, .int .i64 q1, .int .i64 q2] 28 (w4.heap.size) (by simp))
  have HB := Lib.hid (kept_more (o := (.cells #[.int .i64 q0, .int .i64 q1, .int .i64 q2] 28)) HB.out)
  have bq_c0 := bq.out.cell 0
  have bq_c1 := bq.out.cell 1
  have bq_c2 := bq.out.cell 2
  have bz_c0 := bz.out.cell 0
  have bz_c1 := bz.out.cell 1
  have bz_c2 := bz.out.cell 2
  go_wp2_with fail
  refine (hs.out _).mono ?_
  rintro e w5 ⟨rfl, hb⟩
  have bd := Lib.hid (bd.out.next hb)
  have bp := Lib.hid (bp.out.next hb)
  have bx := Lib.hid (bx.out.next hb)
  have bq := Lib.hid (bq.out.next hb)
  have bz := Lib.hid (bz.out.next hb)
  have HB := Lib.hid (bel_next HB.out hb)
  clear bq_c0 bq_c1 bq_c2 bz_c0 bz_c1 bz_c2
  clear hb
  go_wp2_with fail
  go_ret
  exact ⟨rfl, HB.out⟩

theorem am_sum (y m a b : Int) : amY (amY y m a) (amM y m a) b = amY y m (a + b) ∧ amM (amY y m a) (amM y m a) b = amM y m (a + b) := by
  unfold amY amM; omega
theorem min28 (c y m d : Int) (h : d ≤ 28) : min d (dm c y m) = d := by
  have := dm_bd c y m
  omega
theorem am_range (y m n : Int) : 1 ≤ amM y m n ∧ amM y m n ≤ 12 := by unfold amM; omega

theorem sums_any (c y m d a b : Int) (w : World) : Calls Try.prog 12 #[.int .i64 c, .agg #[.int .i64 y, .int .i64 m, .int .i64 d], .agg #[.int .i64 a, .int .i64 b]] w (LawPost w) := by
  by_cases h1 : AmOk c y m d a
  · have g1 := am_yes h1
    generalize hp : min d (dm c (amY y m a) (amM y m a)) = p2 at g1
    by_cases h2 : AmOk c (amY y m a) (amM y m a) p2 b
    · have g2 := am_yes h2
      by_cases h28 : 28 < d
      · exact sums_28 c y m d a b _ _ _ _ _ _ w g1 g2 (by simpa using h28)
      · by_cases hl : a + b < -240000
        · exact sums_low c y m d a b _ _ _ _ _ _ w g1 g2 h1.2.2.1 h1.2.2.2.1 h2.2.2.1 h2.2.2.2.1 (by simpa using h28) (by simpa using hl)
        · by_cases hh : 240000 < a + b
          · exact sums_high c y m d a b _ _ _ _ _ _ w g1 g2 h1.2.2.1 h1.2.2.2.1 h2.2.2.1 h2.2.2.2.1 (by simpa using h28) (by simpa using hl) (by simpa using hh)
          · obtain ⟨e1, e2⟩ := am_sum y m a b
            have r0 := h2.2.2.2.2.1
            have r1 := h2.2.2.2.2.2
            rw [e1] at r0 r1
            have g3 := am_yes (show AmOk c y m d (a + b) from ⟨h1.1, h1.2.1, by omega, by omega, r0, r1⟩)
            rw [min28 _ _ _ _ (by omega)] at hp g3
            subst hp
            rw [e1, e2, min28 _ _ _ _ (by omega)] at g2
            exact sums_ok c y m d a b _ _ _ _ _ _ w g1 g2 h1.2.2.1 h1.2.2.2.1 h2.2.2.1 h2.2.2.2.1 (by simpa using h28) (by simpa using hl) (by simpa using hh) g3
    · obtain ⟨e, g2⟩ := am_no h2
      exact sums_err2 c y m d a b _ _ _ _ _ _ _ w g1 g2 e
  · obtain ⟨e, g1⟩ := am_no h1
    by_cases h2 : AmOk c 0 0 0 b
    · exact sums_err1 c y m d a b _ _ _ _ _ w g1 (am_yes h2) e
    · exact sums_err1 c y m d a b _ _ _ _ _ w g1 (am_no h2).2 e
end Go.Proofs.Ythpeaeepcbbfcaa
