/- The law CalendarCycles. -/
import Derived.Test.YthpeaeepcbbfcaaQ
namespace Go.Proofs.Ythpeaeepcbbfcaa
open Go.RowKit

/-- Number, whatever the date. -/
theorem number_all (c y m d : Int) (w : World) : Calls Try.prog 28 #[.int .i64 c, .agg #[.int .i64 y, .int .i64 m, .int .i64 d]] w fun e w' => e = .returned (.tuple #[.int .i64 (numV c y m d), .int .i64 (numE c y m d)]) ∧ Below w.heap.size w w' := by
  unfold numV numE
  by_cases hc : isCal c
  · by_cases hk : Ok c y m d
    · rw [if_pos ⟨hc, hk⟩, if_pos hc, if_pos hk]; exact number_yes c y m d w hc (ok_true hk)
    · rw [if_neg (fun h => hk h.2), if_pos hc, if_neg hk]; exact number_no c y m d w hc (decide_eq_false hk)
  · rw [if_neg (fun h => hc h.1), if_neg hc]; exact number_nocal c y m d w hc
theorem numE_cases (c y m d : Int) : (numE c y m d = 0 ∧ isCal c ∧ Ok c y m d ∧ numV c y m d = num c y m d) ∨ numE c y m d = 21 ∨ numE c y m d = 20 := by
  unfold numE numV
  by_cases hc : isCal c
  · by_cases hk : Ok c y m d
    · left; simp [hc, hk]
    · right; left; simp [hc, hk]
  · right; right; simp [hc]

theorem mul_400 (y : Int) : mul 4 (y + 400) = mul 4 y + 100 ∧ mul 100 (y + 400) = mul 100 y + 4 ∧ mul 400 (y + 400) = mul 400 y + 1 := by
  unfold mul; omega
theorem lpn_400 (c y : Int) : lpn c (y + 400) = lpn c y := by
  have a := lps_succ c y
  have b := lps_succ c (y + 400)
  have m0 := mul_400 y
  have m1 := mul_400 (y + 1)
  rw [show y + 1 + 400 = y + 400 + 1 by omega] at m1
  have e : ∀ z, lps c z = if c = 1 then mul 4 z - mul 100 z + mul 400 z else if c = 2 then mul 4 z else if c = 4 then z else 0 := fun z => rfl
  rw [e, e] at a b
  by_cases h1 : c = 1
  · subst h1; simp only [if_true] at a b; omega
  · by_cases h2 : c = 2
    · subst h2; simp at a b; omega
    · by_cases h4 : c = 4
      · subst h4; simp at a b; omega
      · simp [h1, h2, h4] at a b; omega
theorem cum_400 (c y m : Int) : cum c (y + 400) m = cum c y m := by unfold cum; rw [lpn_400]
theorem start_400_1 (y : Int) : start 1 (y + 400) = start 1 y + 146097 := by
  have := mul_400 y
  simp [start, lps]; omega
theorem num_400_1 (y m d : Int) : num 1 (y + 400) m d - num 1 y m d = 146097 := by
  unfold num; rw [cum_400, start_400_1]; omega
theorem start_400_2 (y : Int) : start 2 (y + 400) = start 2 y + 146100 := by
  have := mul_400 y
  simp [start, lps]; omega
theorem num_400_2 (y m d : Int) : num 2 (y + 400) m d - num 2 y m d = 146100 := by
  unfold num; rw [cum_400, start_400_2]; omega
theorem start_400_3 (y : Int) : start 3 (y + 400) = start 3 y + 146000 := by
  have := mul_400 y
  simp [start, lps]; omega
theorem num_400_3 (y m d : Int) : num 3 (y + 400) m d - num 3 y m d = 146000 := by
  unfold num; rw [cum_400, start_400_3]; omega
theorem start_400_4 (y : Int) : start 4 (y + 400) = start 4 y + 146400 := by
  have := mul_400 y
  simp [start, lps]; omega
theorem num_400_4 (y m d : Int) : num 4 (y + 400) m d - num 4 y m d = 146400 := by
  unfold num; rw [cum_400, start_400_4]; omega
theorem start_400_5 (y : Int) : start 5 (y + 400) = start 5 y + 144000 := by
  have := mul_400 y
  simp [start, lps]; omega
theorem num_400_5 (y m d : Int) : num 5 (y + 400) m d - num 5 y m d = 144000 := by
  unfold num; rw [cum_400, start_400_5]; omega

def N28 (c y m d v e : Int) : Prop := ∀ W, Calls Try.prog 28 #[.int .i64 c, .agg #[.int .i64 y, .int .i64 m, .int .i64 d]] W fun x w' => x = .returned (.tuple #[.int .i64 v, .int .i64 e]) ∧ Below W.heap.size W w'

set_option maxRecDepth 100000 in
set_option maxHeartbeats 3200000 in
theorem cycles_err1 (c y m d e1 : Int) (w : World) (h1 : Hid (N28 c y m d (numV c y m d) e1)) (t1 : (e1 != 0) = true) : Calls Try.prog 11 #[.int .i64 c, .agg #[.int .i64 y, .int .i64 m, .int .i64 d]] w (LawPost w) := by
  have hs := Lib.hid sane_any
  have hn := Lib.hid (fun y W => number_all c y m d W)
  go_enter Try.func11, Try.ntmps11
  go_wp2_with fail
  refine (h1.out _).mono ?_
  rintro e w2 ⟨rfl, hb2⟩
  obtain ⟨Hx, Hb, -⟩ := kept_box hb2
  have e0 := cell_of_heap Hx 0
  have e1' := cell_of_heap Hx 1
  have e2 := cell_of_heap Hx 2
  have HB := Lib.hid Hb
  clear hb2 Hb Hx
  go_wp2_with fail
  refine (hn.out _ _).mono ?_
  rintro e w3 ⟨rfl, hb3⟩
  have HB3 := Lib.hid (HB.out.trans (hb3.mono HB.out.size))
  clear hb3 e0 e1' e2
  go_wp2_with fail
  refine (hs.out _).mono ?_
  rintro e w4 ⟨rfl, hb4⟩
  have HB4 := Lib.hid (HB3.out.trans (hb4.mono HB3.out.size))
  clear hb4
  go_wp2_with fail
  go_ret
  exact ⟨rfl, HB4.out⟩

set_option maxRecDepth 100000 in
set_option maxHeartbeats 3200000 in
theorem cycles_err2 (c y m d v1 v2 e2 : Int) (w : World) (y0 : -9999 ≤ y) (y1 : y ≤ 9999) (h1 : Hid (N28 c y m d v1 0)) (h2 : Hid (N28 c (y + 400) m d v2 e2)) (t2 : (e2 != 0) = true) : Calls Try.prog 11 #[.int .i64 c, .agg #[.int .i64 y, .int .i64 m, .int .i64 d]] w (LawPost w) := by
  have hs := Lib.hid sane_any
  go_enter Try.func11, Try.ntmps11
  go_wp2_with fail
  refine (h1.out _).mono ?_
  rintro e w2 ⟨rfl, hb2⟩
  obtain ⟨Hx, Hb, -⟩ := kept_box hb2
  have x0 := cell_of_heap Hx 0
  have x1 := cell_of_heap Hx 1
  have x2 := cell_of_heap Hx 2
  have HB := Lib.hid Hb
  clear hb2 Hb Hx
  go_wp2_with fail
  refine (h2.out _).mono ?_
  rintro e w3 ⟨rfl, hb3⟩
  have HB3 := Lib.hid (HB.out.trans (hb3.mono HB.out.size))
  clear hb3 x0 x1 x2
  go_wp2_with fail
  refine (hs.out _).mono ?_
  rintro e w4 ⟨rfl, hb4⟩
  have HB4 := Lib.hid (HB3.out.trans (hb4.mono HB3.out.size))
  clear hb4
  go_wp2_with fail
  go_ret
  exact ⟨rfl, HB4.out⟩

set_option maxRecDepth 100000 in
set_option maxHeartbeats 3200000 in
theorem cycles_ok1 (y m d v1 v2 : Int) (w : World) (y0 : -9999 ≤ y) (y1 : y ≤ 9999) (h1 : Hid (N28 1 y m d v1 0)) (h2 : Hid (N28 1 (y + 400) m d v2 0)) (r0 : -4000000 ≤ v1) (r1 : v1 ≤ 4000000) (r2 : -4000000 ≤ v2) (r3 : v2 ≤ 4000000) (t2 : (v2 - v1 == 146097) = true) : Calls Try.prog 11 #[.int .i64 1, .agg #[.int .i64 y, .int .i64 m, .int .i64 d]] w (LawPost w) := by
  have hs := Lib.hid sane_any
  go_enter Try.func11, Try.ntmps11
  go_wp2_with fail
  refine (h1.out _).mono ?_
  rintro e w2 ⟨rfl, hb2⟩
  obtain ⟨Hx, Hb, -⟩ := kept_box hb2
  have x0 := cell_of_heap Hx 0
  have x1 := cell_of_heap Hx 1
  have x2 := cell_of_heap Hx 2
  have HB := Lib.hid Hb
  clear hb2 Hb Hx
  go_wp2_with fail
  refine (h2.out _).mono ?_
  rintro e w3 ⟨rfl, hb3⟩
  have HB3 := Lib.hid (kept_more (o := .cells #[.int .i64 0, .int .i64 146097, .int .i64 146100, .int .i64 146000, .int .i64 146400, .int .i64 144000] 3) (HB.out.trans (hb3.mono HB.out.size)))
  clear hb3 x0 x1 x2
  go_wp2_with fail
  refine (hs.out _).mono ?_
  rintro e w4 ⟨rfl, hb4⟩
  have HB4 := Lib.hid (HB3.out.trans (hb4.mono HB3.out.size))
  clear hb4
  go_wp2_with fail
  go_ret
  exact ⟨rfl, HB4.out⟩

set_option maxRecDepth 100000 in
set_option maxHeartbeats 3200000 in
theorem cycles_ok2 (y m d v1 v2 : Int) (w : World) (y0 : -9999 ≤ y) (y1 : y ≤ 9999) (h1 : Hid (N28 2 y m d v1 0)) (h2 : Hid (N28 2 (y + 400) m d v2 0)) (r0 : -4000000 ≤ v1) (r1 : v1 ≤ 4000000) (r2 : -4000000 ≤ v2) (r3 : v2 ≤ 4000000) (t2 : (v2 - v1 == 146100) = true) : Calls Try.prog 11 #[.int .i64 2, .agg #[.int .i64 y, .int .i64 m, .int .i64 d]] w (LawPost w) := by
  have hs := Lib.hid sane_any
  go_enter Try.func11, Try.ntmps11
  go_wp2_with fail
  refine (h1.out _).mono ?_
  rintro e w2 ⟨rfl, hb2⟩
  obtain ⟨Hx, Hb, -⟩ := kept_box hb2
  have x0 := cell_of_heap Hx 0
  have x1 := cell_of_heap Hx 1
  have x2 := cell_of_heap Hx 2
  have HB := Lib.hid Hb
  clear hb2 Hb Hx
  go_wp2_with fail
  refine (h2.out _).mono ?_
  rintro e w3 ⟨rfl, hb3⟩
  have HB3 := Lib.hid (kept_more (o := .cells #[.int .i64 0, .int .i64 146097, .int .i64 146100, .int .i64 146000, .int .i64 146400, .int .i64 144000] 3) (HB.out.trans (hb3.mono HB.out.size)))
  clear hb3 x0 x1 x2
  go_wp2_with fail
  refine (hs.out _).mono ?_
  rintro e w4 ⟨rfl, hb4⟩
  have HB4 := Lib.hid (HB3.out.trans (hb4.mono HB3.out.size))
  clear hb4
  go_wp2_with fail
  go_ret
  exact ⟨rfl, HB4.out⟩

set_option maxRecDepth 100000 in
set_option maxHeartbeats 3200000 in
theorem cycles_ok3 (y m d v1 v2 : Int) (w : World) (y0 : -9999 ≤ y) (y1 : y ≤ 9999) (h1 : Hid (N28 3 y m d v1 0)) (h2 : Hid (N28 3 (y + 400) m d v2 0)) (r0 : -4000000 ≤ v1) (r1 : v1 ≤ 4000000) (r2 : -4000000 ≤ v2) (r3 : v2 ≤ 4000000) (t2 : (v2 - v1 == 146000) = true) : Calls Try.prog 11 #[.int .i64 3, .agg #[.int .i64 y, .int .i64 m, .int .i64 d]] w (LawPost w) := by
  have hs := Lib.hid sane_any
  go_enter Try.func11, Try.ntmps11
  go_wp2_with fail
  refine (h1.out _).mono ?_
  rintro e w2 ⟨rfl, hb2⟩
  obtain ⟨Hx, Hb, -⟩ := kept_box hb2
  have x0 := cell_of_heap Hx 0
  have x1 := cell_of_heap Hx 1
  have x2 := cell_of_heap Hx 2
  have HB := Lib.hid Hb
  clear hb2 Hb Hx
  go_wp2_with fail
  refine (h2.out _).mono ?_
  rintro e w3 ⟨rfl, hb3⟩
  have HB3 := Lib.hid (kept_more (o := .cells #[.int .i64 0, .int .i64 146097, .int .i64 146100, .int .i64 146000, .int .i64 146400, .int .i64 144000] 3) (HB.out.trans (hb3.mono HB.out.size)))
  clear hb3 x0 x1 x2
  go_wp2_with fail
  refine (hs.out _).mono ?_
  rintro e w4 ⟨rfl, hb4⟩
  have HB4 := Lib.hid (HB3.out.trans (hb4.mono HB3.out.size))
  clear hb4
  go_wp2_with fail
  go_ret
  exact ⟨rfl, HB4.out⟩

set_option maxRecDepth 100000 in
set_option maxHeartbeats 3200000 in
theorem cycles_ok4 (y m d v1 v2 : Int) (w : World) (y0 : -9999 ≤ y) (y1 : y ≤ 9999) (h1 : Hid (N28 4 y m d v1 0)) (h2 : Hid (N28 4 (y + 400) m d v2 0)) (r0 : -4000000 ≤ v1) (r1 : v1 ≤ 4000000) (r2 : -4000000 ≤ v2) (r3 : v2 ≤ 4000000) (t2 : (v2 - v1 == 146400) = true) : Calls Try.prog 11 #[.int .i64 4, .agg #[.int .i64 y, .int .i64 m, .int .i64 d]] w (LawPost w) := by
  have hs := Lib.hid sane_any
  go_enter Try.func11, Try.ntmps11
  go_wp2_with fail
  refine (h1.out _).mono ?_
  rintro e w2 ⟨rfl, hb2⟩
  obtain ⟨Hx, Hb, -⟩ := kept_box hb2
  have x0 := cell_of_heap Hx 0
  have x1 := cell_of_heap Hx 1
  have x2 := cell_of_heap Hx 2
  have HB := Lib.hid Hb
  clear hb2 Hb Hx
  go_wp2_with fail
  refine (h2.out _).mono ?_
  rintro e w3 ⟨rfl, hb3⟩
  have HB3 := Lib.hid (kept_more (o := .cells #[.int .i64 0, .int .i64 146097, .int .i64 146100, .int .i64 146000, .int .i64 146400, .int .i64 144000] 3) (HB.out.trans (hb3.mono HB.out.size)))
  clear hb3 x0 x1 x2
  go_wp2_with fail
  refine (hs.out _).mono ?_
  rintro e w4 ⟨rfl, hb4⟩
  have HB4 := Lib.hid (HB3.out.trans (hb4.mono HB3.out.size))
  clear hb4
  go_wp2_with fail
  go_ret
  exact ⟨rfl, HB4.out⟩

set_option maxRecDepth 100000 in
set_option maxHeartbeats 3200000 in
theorem cycles_ok5 (y m d v1 v2 : Int) (w : World) (y0 : -9999 ≤ y) (y1 : y ≤ 9999) (h1 : Hid (N28 5 y m d v1 0)) (h2 : Hid (N28 5 (y + 400) m d v2 0)) (r0 : -4000000 ≤ v1) (r1 : v1 ≤ 4000000) (r2 : -4000000 ≤ v2) (r3 : v2 ≤ 4000000) (t2 : (v2 - v1 == 144000) = true) : Calls Try.prog 11 #[.int .i64 5, .agg #[.int .i64 y, .int .i64 m, .int .i64 d]] w (LawPost w) := by
  have hs := Lib.hid sane_any
  go_enter Try.func11, Try.ntmps11
  go_wp2_with fail
  refine (h1.out _).mono ?_
  rintro e w2 ⟨rfl, hb2⟩
  obtain ⟨Hx, Hb, -⟩ := kept_box hb2
  have x0 := cell_of_heap Hx 0
  have x1 := cell_of_heap Hx 1
  have x2 := cell_of_heap Hx 2
  have HB := Lib.hid Hb
  clear hb2 Hb Hx
  go_wp2_with fail
  refine (h2.out _).mono ?_
  rintro e w3 ⟨rfl, hb3⟩
  have HB3 := Lib.hid (kept_more (o := .cells #[.int .i64 0, .int .i64 146097, .int .i64 146100, .int .i64 146000, .int .i64 146400, .int .i64 144000] 3) (HB.out.trans (hb3.mono HB.out.size)))
  clear hb3 x0 x1 x2
  go_wp2_with fail
  refine (hs.out _).mono ?_
  rintro e w4 ⟨rfl, hb4⟩
  have HB4 := Lib.hid (HB3.out.trans (hb4.mono HB3.out.size))
  clear hb4
  go_wp2_with fail
  go_ret
  exact ⟨rfl, HB4.out⟩

theorem cycles_any (c y m d : Int) (w : World) : Calls Try.prog 11 #[.int .i64 c, .agg #[.int .i64 y, .int .i64 m, .int .i64 d]] w (LawPost w) := by
  have h1 := Lib.hid (fun W => number_all c y m d W)
  rcases numE_cases c y m d with ⟨he, hc, hk, hv⟩ | he | he
  · rw [he, hv] at h1
    have h2 := Lib.hid (fun W => number_all c (y + 400) m d W)
    have y0 := hk.1
    have y1 := hk.2.1
    have a := num_range hk
    have b1 := start_bd c (-9999) (by omega) (by omega)
    have b2 := start_bd c 10000 (by omega) (by omega)
    rcases numE_cases c (y + 400) m d with ⟨he2, -, hk2, hv2⟩ | he2 | he2
    · rw [he2, hv2] at h2
      have a2 := num_range hk2
      unfold isCal at hc
      have hcc : c = 1 ∨ c = 2 ∨ c = 3 ∨ c = 4 ∨ c = 5 := by omega
      rcases hcc with rfl | rfl | rfl | rfl | rfl
      · exact cycles_ok1 y m d _ _ w y0 y1 h1 h2 (by omega) (by omega) (by omega) (by omega) (by rw [num_400_1]; rfl)
      · exact cycles_ok2 y m d _ _ w y0 y1 h1 h2 (by omega) (by omega) (by omega) (by omega) (by rw [num_400_2]; rfl)
      · exact cycles_ok3 y m d _ _ w y0 y1 h1 h2 (by omega) (by omega) (by omega) (by omega) (by rw [num_400_3]; rfl)
      · exact cycles_ok4 y m d _ _ w y0 y1 h1 h2 (by omega) (by omega) (by omega) (by omega) (by rw [num_400_4]; rfl)
      · exact cycles_ok5 y m d _ _ w y0 y1 h1 h2 (by omega) (by omega) (by omega) (by omega) (by rw [num_400_5]; rfl)
    · rw [he2] at h2
      exact cycles_err2 c y m d _ _ _ w y0 y1 h1 h2 (by decide)
    · rw [he2] at h2
      exact cycles_err2 c y m d _ _ _ w y0 y1 h1 h2 (by decide)
  · rw [he] at h1
    exact cycles_err1 c y m d _ w h1 (by decide)
  · rw [he] at h1
    exact cycles_err1 c y m d _ w h1 (by decide)
end Go.Proofs.Ythpeaeepcbbfcaa
