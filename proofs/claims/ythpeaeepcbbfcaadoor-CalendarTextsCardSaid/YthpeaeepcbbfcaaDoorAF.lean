/- Leap, Days, Length, Valid, number, Number of the document. -/
import Derived.Test.YthpeaeepcbbfcaaDoorAE
namespace Go.Proofs.YthpeaeepcbbfcaaDoor
open Go.RowKit

theorem eqs_empty {s : ByteArray} (h : s.toList.isEmpty = false ∧ ¬ s.toList = []) : (s.toList == []) = false := by
  cases e : s.toList with
  | nil => rw [e] at h; exact absurd rfl h.2
  | cons a l => rfl

set_option maxRecDepth 100000 in
set_option maxHeartbeats 800000 in
theorem rDays_nocal (c y m : Int) (w : World) (h : ¬ isCal c) : Calls Tryd.prog 29 #[.int .i64 c, .int .i64 y, .int .i64 m] w fun e w' => e = .returned (.tuple #[.int .i64 0, .int .i64 20]) ∧ Below w.heap.size w w' := by
  have hn := Lib.hid (fun W => rname_no c W h)
  clear h
  go_enter Tryd.func29, Tryd.ntmps29
  go_wp2_with fail
  refine (hn.out _).mono ?_
  rintro e w2 ⟨rfl, hb2⟩
  have HB := Lib.hid hb2
  clear hb2
  go_wp2_with fail
  go_ret2
  exact ⟨rfl, HB.out⟩

set_option maxRecDepth 100000 in
set_option maxHeartbeats 800000 in
theorem rDays_noyear (c y m : Int) (w : World) (h : isCal c) (h1 : ¬ (-9999 ≤ y ∧ y ≤ 9999)) : Calls Tryd.prog 29 #[.int .i64 c, .int .i64 y, .int .i64 m] w fun e w' => e = .returned (.tuple #[.int .i64 0, .int .i64 21]) ∧ Below w.heap.size w w' := by
  obtain ⟨nm, hnm, hn'⟩ := rname_any c h
  obtain ⟨e1, e2⟩ := hnm
  have hn := Lib.hid hn'
  clear hn'
  have hy := Lib.hid (fun W => inRange_no y W h1)
  clear h1
  go_enter Tryd.func29, Tryd.ntmps29
  go_wp2_with fail
  refine (hn.out _).mono ?_
  rintro e w2 ⟨rfl, hb2⟩
  have HB := Lib.hid hb2
  clear hb2
  go_wp2_with fail
  refine (hy.out _).mono ?_
  rintro e w3 ⟨rfl, rfl⟩
  go_wp2_with fail
  go_ret2
  exact ⟨rfl, HB.out⟩

set_option maxRecDepth 100000 in
set_option maxHeartbeats 800000 in
theorem rDays_low (c y m : Int) (w : World) (h : isCal c) (h0 : -9999 ≤ y) (h1 : y ≤ 9999) (t : decide (m < 1) = true) : Calls Tryd.prog 29 #[.int .i64 c, .int .i64 y, .int .i64 m] w fun e w' => e = .returned (.tuple #[.int .i64 0, .int .i64 21]) ∧ Below w.heap.size w w' := by
  obtain ⟨nm, hnm, hn'⟩ := rname_any c h
  obtain ⟨e1, e2⟩ := hnm
  have hn := Lib.hid hn'
  clear hn'
  have hy := Lib.hid (fun W => inRange_yes y W h0 h1)
  go_enter Tryd.func29, Tryd.ntmps29
  go_wp2_with fail
  refine (hn.out _).mono ?_
  rintro e w2 ⟨rfl, hb2⟩
  have HB := Lib.hid hb2
  clear hb2
  go_wp2_with fail
  refine (hy.out _).mono ?_
  rintro e w3 ⟨rfl, rfl⟩
  go_wp2_with fail
  go_ret2
  exact ⟨rfl, HB.out⟩

set_option maxRecDepth 100000 in
set_option maxHeartbeats 800000 in
theorem rDays_high (c y m : Int) (w : World) (h : isCal c) (h0 : -9999 ≤ y) (h1 : y ≤ 9999) (t : decide (m < 1) = false) (t' : decide (12 < m) = true) : Calls Tryd.prog 29 #[.int .i64 c, .int .i64 y, .int .i64 m] w fun e w' => e = .returned (.tuple #[.int .i64 0, .int .i64 21]) ∧ Below w.heap.size w w' := by
  obtain ⟨nm, hnm, hn'⟩ := rname_any c h
  obtain ⟨e1, e2⟩ := hnm
  have hn := Lib.hid hn'
  clear hn'
  have hy := Lib.hid (fun W => inRange_yes y W h0 h1)
  go_enter Tryd.func29, Tryd.ntmps29
  go_wp2_with fail
  refine (hn.out _).mono ?_
  rintro e w2 ⟨rfl, hb2⟩
  have HB := Lib.hid hb2
  clear hb2
  go_wp2_with fail
  refine (hy.out _).mono ?_
  rintro e w3 ⟨rfl, rfl⟩
  go_wp2_with fail
  go_ret2
  exact ⟨rfl, HB.out⟩

set_option maxRecDepth 100000 in
set_option maxHeartbeats 800000 in
theorem rDays_yes (c y m : Int) (w : World) (h : isCal c) (h0 : -9999 ≤ y) (h1 : y ≤ 9999) (k0 : 1 ≤ m) (k1 : m ≤ 12) : Calls Tryd.prog 29 #[.int .i64 c, .int .i64 y, .int .i64 m] w fun e w' => e = .returned (.tuple #[.int .i64 (dm c y m), .int .i64 0]) ∧ Below w.heap.size w w' := by
  obtain ⟨nm, hnm, hn'⟩ := rname_any c h
  obtain ⟨e1, e2⟩ := hnm
  have hn := Lib.hid hn'
  clear hn'
  have hy := Lib.hid (fun W => inRange_yes y W h0 h1)
  have hl := Lib.hid (fun W => rdays_any c y m W h k0 k1)
  go_enter Tryd.func29, Tryd.ntmps29
  go_wp2_with fail
  refine (hn.out _).mono ?_
  rintro e w2 ⟨rfl, hb2⟩
  have HB := Lib.hid hb2
  clear hb2
  go_wp2_with fail
  refine (hy.out _).mono ?_
  rintro e w3 ⟨rfl, rfl⟩
  go_wp2_with fail
  refine (hl.out _).mono ?_
  rintro e w3 ⟨rfl, rfl⟩
  go_wp2_with fail
  go_ret2
  exact ⟨rfl, HB.out⟩

/-- Days, whatever the month. -/
theorem rDays_all (c y m : Int) : ∃ v e : Int, (e = 0 ∨ e = 20 ∨ e = 21) ∧ (e = 0 ↔ isCal c ∧ isYM y m) ∧ (e = 0 → v = dm c y m) ∧ (e ≠ 0 → v = 0) ∧ ∀ W, Calls Tryd.prog 29 #[.int .i64 c, .int .i64 y, .int .i64 m] W fun x w' => x = .returned (.tuple #[.int .i64 v, .int .i64 e]) ∧ Below W.heap.size W w' := by
  by_cases hc : isCal c
  · by_cases hy : -9999 ≤ y ∧ y ≤ 9999
    · by_cases hm : 1 ≤ m ∧ m ≤ 12
      · exact ⟨dm c y m, 0, .inl rfl, ⟨fun _ => ⟨hc, hy, hm⟩, fun _ => rfl⟩, fun _ => rfl, fun h => absurd rfl h, fun W => rDays_yes c y m W hc hy.1 hy.2 hm.1 hm.2⟩
      · refine ⟨0, 21, .inr (.inr rfl), ⟨fun h => by omega, fun h => absurd h.2.2 hm⟩, fun h => by omega, fun _ => rfl, fun W => ?_⟩
        by_cases h1 : m < 1
        · exact rDays_low c y m W hc hy.1 hy.2 (by simpa using h1)
        · exact rDays_high c y m W hc hy.1 hy.2 (by simpa using h1) (by simp; omega)
    · exact ⟨0, 21, .inr (.inr rfl), ⟨fun h => by omega, fun h => absurd h.2.1 hy⟩, fun h => by omega, fun _ => rfl, fun W => rDays_noyear c y m W hc hy⟩
  · exact ⟨0, 20, .inr (.inl rfl), ⟨fun h => by omega, fun h => absurd h.1 hc⟩, fun h => by omega, fun _ => rfl, fun W => rDays_nocal c y m W hc⟩

set_option maxRecDepth 100000 in
set_option maxHeartbeats 800000 in
theorem rValid_err (c y m d v e : Int) (w : World) (hd : Hid (∀ W, Calls Tryd.prog 29 #[.int .i64 c, .int .i64 y, .int .i64 m] W fun x w' => x = .returned (.tuple #[.int .i64 v, .int .i64 e]) ∧ Below W.heap.size W w')) (t : (e == 0) = false) : Calls Tryd.prog 13 #[.int .i64 c, .agg #[.int .i64 y, .int .i64 m, .int .i64 d]] w fun e w' => e = .returned (.bool false) ∧ Below w.heap.size w w' := by
  have HB := Lib.hid (Below.refl w.heap.size w)
  have bd := Lib.hid (Bk.newAt w #[.int .i64 y, .int .i64 m, .int .i64 d] 23 (w.heap.size) (by simp))
  have HB := Lib.hid (kept_more (o := (.cells #[.int .i64 y, .int .i64 m, .int .i64 d] 23)) HB.out)
  go_enter Tryd.func13, Tryd.ntmps13
  go_wp2_with fail
  refine (hd.out _).mono ?_
  rintro e w2 ⟨rfl, hb⟩
  have bd := Lib.hid (bd.out.next hb)
  have HB := Lib.hid (bel_next HB.out hb)
  clear hb
  have bd_c0 := bd.out.cell 0
  have bd_c1 := bd.out.cell 1
  have bd_c2 := bd.out.cell 2
  go_wp2_with fail
  go_ret
  exact ⟨rfl, HB.out⟩

set_option maxRecDepth 100000 in
set_option maxHeartbeats 800000 in
theorem rValid_low (c y m d v : Int) (w : World) (hd : Hid (∀ W, Calls Tryd.prog 29 #[.int .i64 c, .int .i64 y, .int .i64 m] W fun x w' => x = .returned (.tuple #[.int .i64 v, .int .i64 0]) ∧ Below W.heap.size W w')) (t : decide (1 ≤ d) = false) : Calls Tryd.prog 13 #[.int .i64 c, .agg #[.int .i64 y, .int .i64 m, .int .i64 d]] w fun e w' => e = .returned (.bool false) ∧ Below w.heap.size w w' := by
  have HB := Lib.hid (Below.refl w.heap.size w)
  have bd := Lib.hid (Bk.newAt w #[.int .i64 y, .int .i64 m, .int .i64 d] 23 (w.heap.size) (by simp))
  have HB := Lib.hid (kept_more (o := (.cells #[.int .i64 y, .int .i64 m, .int .i64 d] 23)) HB.out)
  go_enter Tryd.func13, Tryd.ntmps13
  go_wp2_with fail
  refine (hd.out _).mono ?_
  rintro e w2 ⟨rfl, hb⟩
  have bd := Lib.hid (bd.out.next hb)
  have HB := Lib.hid (bel_next HB.out hb)
  clear hb
  have bd_c0 := bd.out.cell 0
  have bd_c1 := bd.out.cell 1
  have bd_c2 := bd.out.cell 2
  go_wp2_with fail
  go_ret
  exact ⟨rfl, HB.out⟩

set_option maxRecDepth 100000 in
set_option maxHeartbeats 800000 in
theorem rValid_yes (c y m d v : Int) (w : World) (hd : Hid (∀ W, Calls Tryd.prog 29 #[.int .i64 c, .int .i64 y, .int .i64 m] W fun x w' => x = .returned (.tuple #[.int .i64 v, .int .i64 0]) ∧ Below W.heap.size W w')) (t : decide (1 ≤ d) = true) : Calls Tryd.prog 13 #[.int .i64 c, .agg #[.int .i64 y, .int .i64 m, .int .i64 d]] w fun e w' => e = .returned (.bool (decide (d ≤ v))) ∧ Below w.heap.size w w' := by
  have HB := Lib.hid (Below.refl w.heap.size w)
  have bd := Lib.hid (Bk.newAt w #[.int .i64 y, .int .i64 m, .int .i64 d] 23 (w.heap.size) (by simp))
  have HB := Lib.hid (kept_more (o := (.cells #[.int .i64 y, .int .i64 m, .int .i64 d] 23)) HB.out)
  go_enter Tryd.func13, Tryd.ntmps13
  go_wp2_with fail
  refine (hd.out _).mono ?_
  rintro e w2 ⟨rfl, hb⟩
  have bd := Lib.hid (bd.out.next hb)
  have HB := Lib.hid (bel_next HB.out hb)
  clear hb
  have bd_c0 := bd.out.cell 0
  have bd_c1 := bd.out.cell 1
  have bd_c2 := bd.out.cell 2
  go_wp2_with fail
  go_ret
  exact ⟨rfl, HB.out⟩

theorem rValid_any (c y m d : Int) (w : World) : Calls Tryd.prog 13 #[.int .i64 c, .agg #[.int .i64 y, .int .i64 m, .int .i64 d]] w fun e w' => e = .returned (.bool (validV c y m d)) ∧ Below w.heap.size w w' := by
  obtain ⟨v, e, he, hiff, hv, -, hd⟩ := rDays_all c y m
  by_cases h0 : e = 0
  · subst h0
    obtain ⟨hc, hy, hm⟩ := hiff.1 rfl
    by_cases h1 : 1 ≤ d
    · have ev : validV c y m d = decide (d ≤ v) := by
        unfold validV
        rw [decide_eq_true hc, Bool.true_and]
        exact decide_eq_decide.2 (by rw [hv rfl]; unfold Ok; have a := hy.1; have b := hy.2; omega)
      rw [ev]; exact rValid_yes c y m d v w (Lib.hid hd) (by simpa using h1)
    · have ev : validV c y m d = false := by
        unfold validV
        rw [decide_eq_true hc, Bool.true_and]
        exact decide_eq_false (by unfold Ok; omega)
      rw [ev]; exact rValid_low c y m d v w (Lib.hid hd) (by simpa using h1)
  · have ev : validV c y m d = false := by
      unfold validV
      by_cases hc : isCal c
      · rw [decide_eq_true hc, Bool.true_and]
        refine decide_eq_false fun hk => h0 (hiff.2 ⟨hc, ⟨hk.1, hk.2.1⟩, hk.2.2.1, hk.2.2.2.1⟩)
      · rw [decide_eq_false hc, Bool.false_and]
    rw [ev]; exact rValid_err c y m d v e w (Lib.hid hd) (by simpa using h0)

end Go.Proofs.YthpeaeepcbbfcaaDoor
