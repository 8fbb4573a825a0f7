/- The law CalendarYears. -/
import Derived.Test.YthpeaeepcbbfcaaAF
import Derived.Deep.RegionHeld3
namespace Go.Proofs.Ythpeaeepcbbfcaa
open Go.RowKit

theorem leap_pair (c y : Int) : ∃ (v : Bool) (e : Int), (∀ W, Calls Try.prog 20 #[.int .i64 c, .int .i64 y] W fun x w' => x = .returned (.tuple #[.bool v, .int .i64 e]) ∧ Below W.heap.size W w') ∧ (∀ W, Calls Try.prog 21 #[.int .i64 c, .int .i64 y] W fun x w' => x = .returned (.tuple #[.bool v, .int .i64 e]) ∧ Below W.heap.size W w') := by
  by_cases hc : isCal c
  · by_cases hy : -9999 ≤ y ∧ y ≤ 9999
    · exact ⟨_, _, fun W => leap_yes c y W hc hy.1 hy.2, fun W => rLeap_yes c y W hc hy.1 hy.2⟩
    · exact ⟨_, _, fun W => leap_noyear c y W hc hy, fun W => rLeap_noyear c y W hc hy⟩
  · exact ⟨_, _, fun W => leap_nocal c y W hc, fun W => rLeap_nocal c y W hc⟩
theorem length_pair (c y : Int) : ∃ (v e : Int), (∀ W, Calls Try.prog 24 #[.int .i64 c, .int .i64 y] W fun x w' => x = .returned (.tuple #[.int .i64 v, .int .i64 e]) ∧ Below W.heap.size W w') ∧ (∀ W, Calls Try.prog 25 #[.int .i64 c, .int .i64 y] W fun x w' => x = .returned (.tuple #[.int .i64 v, .int .i64 e]) ∧ Below W.heap.size W w') := by
  by_cases hc : isCal c
  · by_cases hy : -9999 ≤ y ∧ y ≤ 9999
    · exact ⟨_, _, fun W => length_yes c y W hc hy.1 hy.2, fun W => rLength_yes c y W hc hy.1 hy.2⟩
    · exact ⟨_, _, fun W => length_noyear c y W hc hy, fun W => rLength_noyear c y W hc hy⟩
  · exact ⟨_, _, fun W => length_nocal c y W hc, fun W => rLength_nocal c y W hc⟩
theorem days_pair (c y m : Int) : ∃ (v e : Int), (∀ W, Calls Try.prog 22 #[.int .i64 c, .int .i64 y, .int .i64 m] W fun x w' => x = .returned (.tuple #[.int .i64 v, .int .i64 e]) ∧ Below W.heap.size W w') ∧ (∀ W, Calls Try.prog 23 #[.int .i64 c, .int .i64 y, .int .i64 m] W fun x w' => x = .returned (.tuple #[.int .i64 v, .int .i64 e]) ∧ Below W.heap.size W w') := by
  by_cases hc : isCal c
  · by_cases hy : -9999 ≤ y ∧ y ≤ 9999
    · by_cases hm : 1 ≤ m ∧ m ≤ 12
      · exact ⟨_, _, fun W => days_yes c y m W hc hy.1 hy.2 hm.1 hm.2, fun W => rDays_yes c y m W hc hy.1 hy.2 hm.1 hm.2⟩
      · refine ⟨_, _, fun W => days_nomonth c y m W hc hy.1 hy.2 hm, fun W => ?_⟩
        by_cases h1 : m < 1
        · exact rDays_low c y m W hc hy.1 hy.2 (by simpa using h1)
        · exact rDays_high c y m W hc hy.1 hy.2 (by simpa using h1) (by simp; omega)
    · exact ⟨_, _, fun W => days_noyear c y m W hc hy, fun W => rDays_noyear c y m W hc hy⟩
  · exact ⟨_, _, fun W => days_nocal c y m W hc, fun W => rDays_nocal c y m W hc⟩
theorem valid_all (c y m d : Int) (w : World) : Calls Try.prog 26 #[.int .i64 c, .agg #[.int .i64 y, .int .i64 m, .int .i64 d]] w fun e w' => e = .returned (.bool (validV c y m d)) ∧ Below w.heap.size w w' := by
  unfold validV
  by_cases hc : isCal c
  · rw [decide_eq_true hc, Bool.true_and]; exact valid_yes c y m d w hc
  · rw [decide_eq_false hc, Bool.false_and]; exact valid_nocal c y m d w hc

theorem Kd.drew {B : Nat} {y m d : Int} {w0 W : World} (h : Kd B y m d w0 W) : Kd B y m d w0 W.drew := ⟨h.size, h.below.drew, h.bx⟩
theorem Kd.all {B : Nat} {y m d : Int} {w0 W : World} (h : Kd B y m d w0 W) : Kd B y m d w0 W ∧ W.cell? ⟨B, 0, none⟩ = some (.int .i64 y) ∧ W.cell? ⟨B, 1, none⟩ = some (.int .i64 m) ∧ W.cell? ⟨B, 2, none⟩ = some (.int .i64 d) := ⟨h, h.cells⟩

set_option maxRecDepth 100000 in
set_option maxHeartbeats 3200000 in
theorem years_walk (c y m d e1 v2 e2 v3 e3 : Int) (v1 u : Bool) (w : World) (a1 : Hid (∀ W, Calls Try.prog 20 #[.int .i64 c, .int .i64 y] W fun x w' => x = .returned (.tuple #[.bool v1, .int .i64 e1]) ∧ Below W.heap.size W w')) (a2 : Hid (∀ W, Calls Try.prog 21 #[.int .i64 c, .int .i64 y] W fun x w' => x = .returned (.tuple #[.bool v1, .int .i64 e1]) ∧ Below W.heap.size W w')) (b1 : Hid (∀ W, Calls Try.prog 22 #[.int .i64 c, .int .i64 y, .int .i64 m] W fun x w' => x = .returned (.tuple #[.int .i64 v2, .int .i64 e2]) ∧ Below W.heap.size W w')) (b2 : Hid (∀ W, Calls Try.prog 23 #[.int .i64 c, .int .i64 y, .int .i64 m] W fun x w' => x = .returned (.tuple #[.int .i64 v2, .int .i64 e2]) ∧ Below W.heap.size W w')) (c1 : Hid (∀ W, Calls Try.prog 24 #[.int .i64 c, .int .i64 y] W fun x w' => x = .returned (.tuple #[.int .i64 v3, .int .i64 e3]) ∧ Below W.heap.size W w')) (c2 : Hid (∀ W, Calls Try.prog 25 #[.int .i64 c, .int .i64 y] W fun x w' => x = .returned (.tuple #[.int .i64 v3, .int .i64 e3]) ∧ Below W.heap.size W w')) (d1 : Hid (∀ W, Calls Try.prog 26 #[.int .i64 c, .agg #[.int .i64 y, .int .i64 m, .int .i64 d]] W fun x w' => x = .returned (.bool u) ∧ Below W.heap.size W w')) (d2 : Hid (∀ W, Calls Try.prog 27 #[.int .i64 c, .agg #[.int .i64 y, .int .i64 m, .int .i64 d]] W fun x w' => x = .returned (.bool u) ∧ Below W.heap.size W w')) : Calls Try.prog 4 #[.int .i64 c, .agg #[.int .i64 y, .int .i64 m, .int .i64 d]] w (LawPost w) := by
  have hs := Lib.hid sane_any
  have HB := Lib.hid (Below.refl w.heap.size w)
  have bd := Lib.hid (Bk.newAt w #[.int .i64 y, .int .i64 m, .int .i64 d] 28 (w.heap.size) (by simp))
  have HB := Lib.hid (kept_more (o := (.cells #[.int .i64 y, .int .i64 m, .int .i64 d] 28)) HB.out)
  go_enter Try.func4, Try.ntmps4
  have bd_c0 := bd.out.cell 0
  have bd_c1 := bd.out.cell 1
  have bd_c2 := bd.out.cell 2
  go_wp2_with fail
  refine (a1.out _).mono ?_
  rintro e w2 ⟨rfl, hb⟩
  have bd := Lib.hid (bd.out.next hb)
  have HB := Lib.hid (bel_next HB.out hb)
  clear bd_c0 bd_c1 bd_c2
  clear hb
  have bd_c0 := bd.out.cell 0
  have bd_c1 := bd.out.cell 1
  have bd_c2 := bd.out.cell 2
  go_wp2_with fail
  refine (a2.out _).mono ?_
  rintro e w3 ⟨rfl, hb⟩
  have bd := Lib.hid (bd.out.next hb)
  have HB := Lib.hid (bel_next HB.out hb)
  clear bd_c0 bd_c1 bd_c2
  clear hb
  have bd_c0 := bd.out.cell 0
  have bd_c1 := bd.out.cell 1
  have bd_c2 := bd.out.cell 2
  go_wp2_with fail
  refine (b1.out _).mono ?_
  rintro e w4 ⟨rfl, hb⟩
  have bd := Lib.hid (bd.out.next hb)
  have HB := Lib.hid (bel_next HB.out hb)
  clear bd_c0 bd_c1 bd_c2
  clear hb
  have bd_c0 := bd.out.cell 0
  have bd_c1 := bd.out.cell 1
  have bd_c2 := bd.out.cell 2
  go_wp2_with fail
  refine (b2.out _).mono ?_
  rintro e w5 ⟨rfl, hb⟩
  have bd := Lib.hid (bd.out.next hb)
  have HB := Lib.hid (bel_next HB.out hb)
  clear bd_c0 bd_c1 bd_c2
  clear hb
  have bd_c0 := bd.out.cell 0
  have bd_c1 := bd.out.cell 1
  have bd_c2 := bd.out.cell 2
  go_wp2_with fail
  refine (c1.out _).mono ?_
  rintro e w6 ⟨rfl, hb⟩
  have bd := Lib.hid (bd.out.next hb)
  have HB := Lib.hid (bel_next HB.out hb)
  clear bd_c0 bd_c1 bd_c2
  clear hb
  have bd_c0 := bd.out.cell 0
  have bd_c1 := bd.out.cell 1
  have bd_c2 := bd.out.cell 2
  go_wp2_with fail
  refine (c2.out _).mono ?_
  rintro e w7 ⟨rfl, hb⟩
  have bd := Lib.hid (bd.out.next hb)
  have HB := Lib.hid (bel_next HB.out hb)
  clear bd_c0 bd_c1 bd_c2
  clear hb
  have hK := Lib.hid (show Kd w.heap.size y m d w w7 from ⟨bd.out.lt, HB.out, bd.out⟩)
  go_wp2_with fail
  go_region_held3 (fun w' => Kd w.heap.size y m d w w' ∧ w'.cell? ⟨w.heap.size, 0, none⟩ = some (.int .i64 y) ∧ w'.cell? ⟨w.heap.size, 1, none⟩ = some (.int .i64 m) ∧ w'.cell? ⟨w.heap.size, 2, none⟩ = some (.int .i64 d))
    (first | exact Kd.all (Kd.drew hK.out) | exact Kd.all hK.out | (go_split_ands; exact Kd.all (Kd.next (by assumption) hb1)) | go_keep)
    (first | (go_at_call 26; go_split_ands; refine (d1.out _).mono ?_; rintro e z ⟨rfl, hb1⟩; have hK1 := Lib.hid (Kd.next (by assumption) hb1)) | (go_at_call 27; go_split_ands; refine (d2.out _).mono ?_; rintro e z ⟨rfl, hb1⟩; have hK1 := Lib.hid (Kd.next (by assumption) hb1)) | (go_at_call 19; go_split_ands; refine (hs.out _).mono ?_; rintro e z ⟨rfl, hb1⟩; have hK1 := Lib.hid (Kd.next (by assumption) hb1)))
  all_goals
    go_wp2_with fail
    go_ret
    exact ⟨rfl, hK1.out.below⟩

theorem years_any (c y m d : Int) (w : World) : Calls Try.prog 4 #[.int .i64 c, .agg #[.int .i64 y, .int .i64 m, .int .i64 d]] w (LawPost w) := by
  obtain ⟨v1, e1, a1, a2⟩ := leap_pair c y
  obtain ⟨v2, e2, b1, b2⟩ := days_pair c y m
  obtain ⟨v3, e3, c1, c2⟩ := length_pair c y
  exact years_walk c y m d _ _ _ _ _ _ _ w (Lib.hid a1) (Lib.hid a2) (Lib.hid b1) (Lib.hid b2) (Lib.hid c1) (Lib.hid c2) (Lib.hid (valid_all c y m d)) (Lib.hid (rValid_any c y m d))
end Go.Proofs.Ythpeaeepcbbfcaa
