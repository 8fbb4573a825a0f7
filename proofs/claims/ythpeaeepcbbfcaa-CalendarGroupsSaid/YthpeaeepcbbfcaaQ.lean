/- The date of a day number is the one; the law CalendarCounts. -/
import Derived.Test.YthpeaeepcbbfcaaP
namespace Go.Proofs.Ythpeaeepcbbfcaa
open Go.RowKit

theorem exists_year (c n a : Int) (k : Nat) (h0 : start c a ≤ n) (h1 : n < start c (a + k)) : ∃ y, a ≤ y ∧ y < a + k ∧ start c y ≤ n ∧ n < start c (y + 1) := by
  induction k with
  | zero => rw [show a + ((0 : Nat) : Int) = a by omega] at h1; omega
  | succ k ih =>
    by_cases h : n < start c (a + k)
    · obtain ⟨y, y0, y1, y2, y3⟩ := ih h
      exact ⟨y, y0, by omega, y2, y3⟩
    · exact ⟨a + k, by omega, by omega, by omega, by rw [show a + (k : Int) + 1 = a + ((k + 1 : Nat) : Int) by omega]; exact h1⟩
theorem exists_month (c y r : Int) (k : Nat) (h0 : 0 ≤ r) (h1 : r < cum c y (1 + k)) : ∃ m : Int, 1 ≤ m ∧ m < 1 + k ∧ cum c y m ≤ r ∧ r < cum c y (m + 1) := by
  induction k with
  | zero => rw [show 1 + ((0 : Nat) : Int) = 1 by omega, cum_one] at h1; omega
  | succ k ih =>
    by_cases h : r < cum c y (1 + k)
    · obtain ⟨m, m0, m1, m2, m3⟩ := ih h
      exact ⟨m, m0, by omega, m2, m3⟩
    · exact ⟨1 + k, by omega, by omega, by omega, by rw [show 1 + (k : Int) + 1 = 1 + ((k + 1 : Nat) : Int) by omega]; exact h1⟩
theorem date_exists (c n : Int) (h0 : start c (-9999) ≤ n) (h1 : n < start c 10000) : ∃ y m d, Ok c y m d ∧ num c y m d = n := by
  obtain ⟨y, y0, y1, y2, y3⟩ := exists_year c n (-9999) 19999 h0 (by rw [show (-9999 : Int) + (19999 : Nat) = 10000 by omega]; exact h1)
  have hl : n - start c y < cum c y (1 + (12 : Nat)) := by
    rw [show (1 : Int) + (12 : Nat) = 13 by omega, cum_last]
    rw [start_succ] at y3; omega
  obtain ⟨m, m0, m1, m2, m3⟩ := exists_month c y (n - start c y) 12 (by omega) hl
  rw [cum_succ c y m m0 (by omega)] at m3
  exact ⟨y, m, n - start c y - cum c y m + 1, ⟨by omega, by omega, m0, by omega, by omega, by omega⟩, by unfold num; omega⟩
theorem dateOf_at {c n y m d : Int} (w : World) (h : isCal c) (hok : Ok c y m d) (hnum : num c y m d = n) : Calls Try.prog 30 #[.int .i64 c, .int .i64 n] w fun e w' => e = .returned (.tuple #[.agg #[.int .i64 y, .int .i64 m, .int .i64 d], .int .i64 0]) ∧ Below w.heap.size w w' := by
  have hr := num_range hok
  rw [hnum] at hr
  refine (dateOf_ok c n w h hr.1 hr.2).mono fun e w' ⟨hb, y2, m2, d2, he, hok2, hnum2⟩ => ?_
  obtain ⟨rfl, rfl, rfl⟩ := num_inj hok2 hok (hnum2.trans hnum.symm)
  exact ⟨he, hb⟩
theorem date_cases (c n : Int) : (∃ y m d, Ok c y m d ∧ num c y m d = n) ∨ ¬ (start c (-9999) ≤ n ∧ n < start c 10000) := by
  by_cases h : start c (-9999) ≤ n ∧ n < start c 10000
  · exact .inl (date_exists c n h.1 h.2)
  · exact .inr h

theorem counts_any (c n : Int) (w : World) : Calls Try.prog 10 #[.int .i64 c, .int .i64 n] w (LawPost w) := by
  by_cases hc : isCal c
  · rcases date_cases c n with ⟨y, m, d, hok, hnum⟩ | hn
    · have hy0 := hok.1
      have hy1 := hok.2.1
      have hin := num_in hok
      rw [hnum] at hin
      have hsb := start_bd c y (by omega) (by omega)
      have hlb := len_bd c y
      have hss := start_succ c y
      have hd1 := Lib.hid (fun W => dateOf_at W hc hok hnum)
      have hn1 := Lib.hid (fun W => num_any' W hc hok hnum)
      have hy1' := Lib.hid (fun W => first_any c y W hc hy0 hy1)
      have hl1 := Lib.hid (fun W => length_yes c y W hc hy0 hy1)
      rcases date_cases c (n + 1) with ⟨y2, m2, d2, hok2, hnum2⟩ | hn2
      · have hd2 := Lib.hid (fun W => dateOf_at W hc hok2 hnum2)
        have hl := later_of_lt hok hok2 (by omega)
        by_cases h99 : y = 9999
        · subst h99
          have hz := Lib.hid (fun W => first_no c W hc)
          rcases hl with hl | ⟨rfl, hl | ⟨rfl, hl⟩⟩
          · have := hok2.2.1; omega
          · exact counts_month_end c n m d m2 d2 _ _ w hd1 hn1 hy1' hl1 (by omega) (by omega) (by omega) (by omega) (by omega) (by omega) (by omega) (by omega) hd2 (decide_eq_true hl) hz
          · exact counts_day_end c n m d d2 _ _ w hd1 hn1 hy1' hl1 (by omega) (by omega) (by omega) (by omega) (by omega) (by omega) (by omega) (by omega) hd2 (decide_eq_true hl) hz
        · have hz := Lib.hid (fun W => first_any c (y + 1) W hc (by omega) (by omega))
          rw [hss] at hz
          rcases hl with hl | ⟨rfl, hl | ⟨rfl, hl⟩⟩
          · exact counts_year_in c n y m d y2 m2 d2 _ _ w hd1 hn1 hy1' hl1 (by omega) (by omega) (by omega) (by omega) (by omega) (by omega) (by omega) (by omega) hd2 (decide_eq_true hl) hz (by omega) (by omega)
          · exact counts_month_in c n y m d m2 d2 _ _ w hd1 hn1 hy1' hl1 (by omega) (by omega) (by omega) (by omega) (by omega) (by omega) (by omega) (by omega) hd2 (decide_eq_true hl) hz (by omega) (by omega)
          · exact counts_day_in c n y m d d2 _ _ w hd1 hn1 hy1' hl1 (by omega) (by omega) (by omega) (by omega) (by omega) (by omega) (by omega) (by omega) hd2 (decide_eq_true hl) hz (by omega) (by omega)
      · have hr := num_range hok
        rw [hnum] at hr
        have h99 : y = 9999 := by
          by_cases h : y = 9999
          · exact h
          · have := start_le c (y + 1 + 1) 10000 (by omega)
            have a := start_succ c (y + 1)
            have b := len_bd c (y + 1)
            omega
        subst h99
        have hd2 := Lib.hid (fun W => dateOf_bad c (n + 1) W hc hn2)
        rw [show (9999 : Int) + 1 = 10000 by omega] at hin hss
        exact counts_last c n m d _ _ w hd1 hn1 hy1' hl1 (by omega) (by omega) (by omega) (by omega) (by omega) (by omega) (by omega) (by omega) hd2 (by rw [beq_iff_eq]; omega)
    · exact counts_err c n 21 w (by decide) (Lib.hid fun W => dateOf_bad c n W hc hn)
  · exact counts_err c n 20 w (by decide) (Lib.hid fun W => dateOf_no c n W hc)
end Go.Proofs.Ythpeaeepcbbfcaa
