/- Leap, Days, Length, Valid, number, Number of the document. -/
import Derived.Test.YthpeaeepcbbfcaaAE
namespace Go.Proofs.Ythpeaeepcbbfcaa
open Go.RowKit

theorem eqs_empty {s : ByteArray} (h : s.toList.isEmpty = false ∧ ¬ s.toList = []) : (s.toList == []) = false := by
  cases e : s.toList with
  | nil => rw [e] at h; exact absurd rfl h.2
  | cons a l => rfl

set_option maxRecDepth 100000 in
set_option maxHeartbeats 800000 in
theorem rLeap_nocal (c y : Int) (w : World) (h : ¬ isCal c) : Calls Try.prog 21 #[.int .i64 c, .int .i64 y] w fun e w' => e = .returned (.tuple #[.bool false, .int .i64 20]) ∧ Below w.heap.size w w' := by
  have hn := Lib.hid (fun W => rname_no c W h)
  clear h
  go_enter Try.func21, Try.ntmps21
  go_wp2_with fail
  refine (hn.out _).mono ?_
  rintro e w2 ⟨rfl, hb2⟩
  have HB := Lib.hid hb2
  clear hb2
  go_wp2_with fail
  go_ret2
  exact ⟨rfl, HB.out⟩

set_option maxRecDepth 100000 in
set_option maxHeartbeats 800000 in
theorem rLeap_noyear (c y : Int) (w : World) (h : isCal c) (h1 : ¬ (-9999 ≤ y ∧ y ≤ 9999)) : Calls Try.prog 21 #[.int .i64 c, .int .i64 y] w fun e w' => e = .returned (.tuple #[.bool false, .int .i64 21]) ∧ Below w.heap.size w w' := by
  obtain ⟨nm, hnm, hn'⟩ := rname_any c h
  obtain ⟨e1, e2⟩ := hnm
  have hn := Lib.hid hn'
  clear hn'
  have hy := Lib.hid (fun W => inRange_no y W h1)
  clear h1
  go_enter Try.func21, Try.ntmps21
  go_wp2_with fail
  refine (hn.out _).mono ?_
  rintro e w2 ⟨rfl, hb2⟩
  have HB := Lib.hid hb2
  clear hb2
  go_wp2_with fail
  refine (hy.out _).mono ?_
  rintro e w3 ⟨rfl, rfl⟩
  go_wp2_with fail
  go_ret2
  exact ⟨rfl, HB.out⟩

set_option maxRecDepth 100000 in
set_option maxHeartbeats 800000 in
theorem rLeap_yes (c y : Int) (w : World) (h : isCal c) (h0 : -9999 ≤ y) (h1 : y ≤ 9999) : Calls Try.prog 21 #[.int .i64 c, .int .i64 y] w fun e w' => e = .returned (.tuple #[.bool (lp c y), .int .i64 0]) ∧ Below w.heap.size w w' := by
  obtain ⟨nm, hnm, hn'⟩ := rname_any c h
  obtain ⟨e1, e2⟩ := hnm
  have hn := Lib.hid hn'
  clear hn'
  have hy := Lib.hid (fun W => inRange_yes y W h0 h1)
  have hl := Lib.hid (fun W => rleap_any c y W h)
  go_enter Try.func21, Try.ntmps21
  go_wp2_with fail
  refine (hn.out _).mono ?_
  rintro e w2 ⟨rfl, hb2⟩
  have HB := Lib.hid hb2
  clear hb2
  go_wp2_with fail
  refine (hy.out _).mono ?_
  rintro e w3 ⟨rfl, rfl⟩
  go_wp2_with fail
  refine (hl.out _).mono ?_
  rintro e w3 ⟨rfl, rfl⟩
  go_wp2_with fail
  go_ret2
  exact ⟨rfl, HB.out⟩

set_option maxRecDepth 100000 in
set_option maxHeartbeats 800000 in
theorem rLength_nocal (c y : Int) (w : World) (h : ¬ isCal c) : Calls Try.prog 25 #[.int .i64 c, .int .i64 y] w fun e w' => e = .returned (.tuple #[.int .i64 0, .int .i64 20]) ∧ Below w.heap.size w w' := by
  have hn := Lib.hid (fun W => rname_no c W h)
  clear h
  go_enter Try.func25, Try.ntmps25
  go_wp2_with fail
  refine (hn.out _).mono ?_
  rintro e w2 ⟨rfl, hb2⟩
  have HB := Lib.hid hb2
  clear hb2
  go_wp2_with fail
  go_ret2
  exact ⟨rfl, HB.out⟩

set_option maxRecDepth 100000 in
set_option maxHeartbeats 800000 in
theorem rLength_noyear (c y : Int) (w : World) (h : isCal c) (h1 : ¬ (-9999 ≤ y ∧ y ≤ 9999)) : Calls Try.prog 25 #[.int .i64 c, .int .i64 y] w fun e w' => e = .returned (.tuple #[.int .i64 0, .int .i64 21]) ∧ Below w.heap.size w w' := by
  obtain ⟨nm, hnm, hn'⟩ := rname_any c h
  obtain ⟨e1, e2⟩ := hnm
  have hn := Lib.hid hn'
  clear hn'
  have hy := Lib.hid (fun W => inRange_no y W h1)
  clear h1
  go_enter Try.func25, Try.ntmps25
  go_wp2_with fail
  refine (hn.out _).mono ?_
  rintro e w2 ⟨rfl, hb2⟩
  have HB := Lib.hid hb2
  clear hb2
  go_wp2_with fail
  refine (hy.out _).mono ?_
  rintro e w3 ⟨rfl, rfl⟩
  go_wp2_with fail
  go_ret2
  exact ⟨rfl, HB.out⟩

set_option maxRecDepth 100000 in
set_option maxHeartbeats 800000 in
theorem rLength_yes (c y : Int) (w : World) (h : isCal c) (h0 : -9999 ≤ y) (h1 : y ≤ 9999) : Calls Try.prog 25 #[.int .i64 c, .int .i64 y] w fun e w' => e = .returned (.tuple #[.int .i64 (len c y), .int .i64 0]) ∧ Below w.heap.size w w' := by
  obtain ⟨nm, hnm, hn'⟩ := rname_any c h
  obtain ⟨e1, e2⟩ := hnm
  have hn := Lib.hid hn'
  clear hn'
  have hy := Lib.hid (fun W => inRange_yes y W h0 h1)
  have hl := Lib.hid (fun W => rlength_any c y W h)
  go_enter Try.func25, Try.ntmps25
  go_wp2_with fail
  refine (hn.out _).mono ?_
  rintro e w2 ⟨rfl, hb2⟩
  have HB := Lib.hid hb2
  clear hb2
  go_wp2_with fail
  refine (hy.out _).mono ?_
  rintro e w3 ⟨rfl, rfl⟩
  go_wp2_with fail
  refine (hl.out _).mono ?_
  rintro e w3 ⟨rfl, rfl⟩
  go_wp2_with fail
  go_ret2
  exact ⟨rfl, HB.out⟩

set_option maxRecDepth 100000 in
set_option maxHeartbeats 800000 in
theorem rDays_nocal (c y m : Int) (w : World) (h : ¬ isCal c) : Calls Try.prog 23 #[.int .i64 c, .int .i64 y, .int .i64 m] w fun e w' => e = .returned (.tuple #[.int .i64 0, .int .i64 20]) ∧ Below w.heap.size w w' := by
  have hn := Lib.hid (fun W => rname_no c W h)
  clear h
  go_enter Try.func23, Try.ntmps23
  go_wp2_with fail
  refine (hn.out _).mono ?_
  rintro e w2 ⟨rfl, hb2⟩
  have HB := Lib.hid hb2
  clear hb2
  go_wp2_with fail
  go_ret2
  exact ⟨rfl, HB.out⟩

set_option maxRecDepth 100000 in
set_option maxHeartbeats 800000 in
theorem rDays_noyear (c y m : Int) (w : World) (h : isCal c) (h1 : ¬ (-9999 ≤ y ∧ y ≤ 9999)) : Calls Try.prog 23 #[.int .i64 c, .int .i64 y, .int .i64 m] w fun e w' => e = .returned (.tuple #[.int .i64 0, .int .i64 21]) ∧ Below w.heap.size w w' := by
  obtain ⟨nm, hnm, hn'⟩ := rname_any c h
  obtain ⟨e1, e2⟩ := hnm
  have hn := Lib.hid hn'
  clear hn'
  have hy := Lib.hid (fun W => inRange_no y W h1)
  clear h1
  go_enter Try.func23, Try.ntmps23
  go_wp2_with fail
  refine (hn.out _).mono ?_
  rintro e w2 ⟨rfl, hb2⟩
  have HB := Lib.hid hb2
  clear hb2
  go_wp2_with fail
  refine (hy.out _).mono ?_
  rintro e w3 ⟨rfl, rfl⟩
  go_wp2_with fail
  go_ret2
  exact ⟨rfl, HB.out⟩

set_option maxRecDepth 100000 in
set_option maxHeartbeats 800000 in
theorem rDays_low (c y m : Int) (w : World) (h : isCal c) (h0 : -9999 ≤ y) (h1 : y ≤ 9999) (t : decide (m < 1) = true) : Calls Try.prog 23 #[.int .i64 c, .int .i64 y, .int .i64 m] w fun e w' => e = .returned (.tuple #[.int .i64 0, .int .i64 21]) ∧ Below w.heap.size w w' := by
  obtain ⟨nm, hnm, hn'⟩ := rname_any c h
  obtain ⟨e1, e2⟩ := hnm
  have hn := Lib.hid hn'
  clear hn'
  have hy := Lib.hid (fun W => inRange_yes y W h0 h1)
  go_enter Try.func23, Try.ntmps23
  go_wp2_with fail
  refine (hn.out _).mono ?_
  rintro e w2 ⟨rfl, hb2⟩
  have HB := Lib.hid hb2
  clear hb2
  go_wp2_with fail
  refine (hy.out _).mono ?_
  rintro e w3 ⟨rfl, rfl⟩
  go_wp2_with fail
  go_ret2
  exact ⟨rfl, HB.out⟩

set_option maxRecDepth 100000 in
set_option maxHeartbeats 800000 in
theorem rDays_high (c y m : Int) (w : World) (h : isCal c) (h0 : -9999 ≤ y) (h1 : y ≤ 9999) (t : decide (m < 1) = false) (t' : decide (12 < m) = true) : Calls Try.prog 23 #[.int .i64 c, .int .i64 y, .int .i64 m] w fun e w' => e = .returned (.tuple #[.int .i64 0, .int .i64 21]) ∧ Below w.heap.size w w' := by
  obtain ⟨nm, hnm, hn'⟩ := rname_any c h
  obtain ⟨e1, e2⟩ := hnm
  have hn := Lib.hid hn'
  clear hn'
  have hy := Lib.hid (fun W => inRange_yes y W h0 h1)
  go_enter Try.func23, Try.ntmps23
  go_wp2_with fail
  refine (hn.out _).mono ?_
  rintro e w2 ⟨rfl, hb2⟩
  have HB := Lib.hid hb2
  clear hb2
  go_wp2_with fail
  refine (hy.out _).mono ?_
  rintro e w3 ⟨rfl, rfl⟩
  go_wp2_with fail
  go_ret2
  exact ⟨rfl, HB.out⟩

set_option maxRecDepth 100000 in
set_option maxHeartbeats 800000 in
theorem rDays_yes (c y m : Int) (w : World) (h : isCal c) (h0 : -9999 ≤ y) (h1 : y ≤ 9999) (k0 : 1 ≤ m) (k1 : m ≤ 12) : Calls Try.prog 23 #[.int .i64 c, .int .i64 y, .int .i64 m] w fun e w' => e = .returned (.tuple #[.int .i64 (dm c y m), .int .i64 0]) ∧ Below w.heap.size w w' := by
  obtain ⟨nm, hnm, hn'⟩ := rname_any c h
  obtain ⟨e1, e2⟩ := hnm
  have hn := Lib.hid hn'
  clear hn'
  have hy := Lib.hid (fun W => inRange_yes y W h0 h1)
  have hl := Lib.hid (fun W => rdays_any c y m W h k0 k1)
  go_enter Try.func23, Try.ntmps23
  go_wp2_with fail
  refine (hn.out _).mono ?_
  rintro e w2 ⟨rfl, hb2⟩
  have HB := Lib.hid hb2
  clear hb2
  go_wp2_with fail
  refine (hy.out _).mono ?_
  rintro e w3 ⟨rfl, rfl⟩
  go_wp2_with fail
  refine (hl.out _).mono ?_
  rintro e w3 ⟨rfl, rfl⟩
  go_wp2_with fail
  go_ret2
  exact ⟨rfl, HB.out⟩

/-- Days, whatever the month. -/
theorem rDays_all (c y m : Int) : ∃ v e : Int, (e = 0 ∨ e = 20 ∨ e = 21) ∧ (e = 0 ↔ isCal c ∧ isYM y m) ∧ (e = 0 → v = dm c y m) ∧ (e ≠ 0 → v = 0) ∧ ∀ W, Calls Try.prog 23 #[.int .i64 c, .int .i64 y, .int .i64 m] W fun x w' => x = .returned (.tuple #[.int .i64 v, .int .i64 e]) ∧ Below W.heap.size W w' := by
  by_cases hc : isCal c
  · by_cases hy : -9999 ≤ y ∧ y ≤ 9999
    · by_cases hm : 1 ≤ m ∧ m ≤ 12
      · exact ⟨dm c y m, 0, .inl rfl, ⟨fun _ => ⟨hc, hy, hm⟩, fun _ => rfl⟩, fun _ => rfl, fun h => absurd rfl h, fun W => rDays_yes c y m W hc hy.1 hy.2 hm.1 hm.2⟩
      · refine ⟨0, 21, .inr (.inr rfl), ⟨fun h => by omega, fun h => absurd h.2.2 hm⟩, fun h => by omega, fun _ => rfl, fun W => ?_⟩
        by_cases h1 : m < 1
        · exact rDays_low c y m W hc hy.1 hy.2 (by simpa using h1)
        · exact rDays_high c y m W hc hy.1 hy.2 (by simpa using h1) (by simp; omega)
    · exact ⟨0, 21, .inr (.inr rfl), ⟨fun h => by omega, fun h => absurd h.2.1 hy⟩, fun h => by omega, fun _ => rfl, fun W => rDays_noyear c y m W hc hy⟩
  · exact ⟨0, 20, .inr (.inl rfl), ⟨fun h => by omega, fun h => absurd h.1 hc⟩, fun h => by omega, fun _ => rfl, fun W => rDays_nocal c y m W hc⟩

set_option maxRecDepth 100000 in
set_option maxHeartbeats 800000 in
theorem rValid_err (c y m d v e : Int) (w : World) (hd : Hid (∀ W, Calls Try.prog 23 #[.int .i64 c, .int .i64 y, .int .i64 m] W fun x w' => x = .returned (.tuple #[.int .i64 v, .int .i64 e]) ∧ Below W.heap.size W w')) (t : (e == 0) = false) : Calls Try.prog 27 #[.int .i64 c, .agg #[.int .i64 y, .int .i64 m, .int .i64 d]] w fun e w' => e = .returned (.bool false) ∧ Below w.heap.size w w' := by
  have HB := Lib.hid (Below.refl w.heap.size w)
  have bd := Lib.hid (Bk.newAt w #[.int .i64 y, .int .i64 m, .int .i64 d] 28 (w.heap.size) (by simp))
  have HB := Lib.hid (kept_more (o := (.cells #[.int .i64 y, .int .i64 m, .int .i64 d] 28)) HB.out)
  go_enter Try.func27, Try.ntmps27
  go_wp2_with fail
  refine (hd.out _).mono ?_
  rintro e w2 ⟨rfl, hb⟩
  have bd := Lib.hid (bd.out.next hb)
  have HB := Lib.hid (bel_next HB.out hb)
  clear hb
  have bd_c0 := bd.out.cell 0
  have bd_c1 := bd.out.cell 1
  have bd_c2 := bd.out.cell 2
  go_wp2_with fail
  go_ret
  exact ⟨rfl, HB.out⟩

set_option maxRecDepth 100000 in
set_option maxHeartbeats 800000 in
theorem rValid_low (c y m d v : Int) (w : World) (hd : Hid (∀ W, Calls Try.prog 23 #[.int .i64 c, .int .i64 y, .int .i64 m] W fun x w' => x = .returned (.tuple #[.int .i64 v, .int .i64 0]) ∧ Below W.heap.size W w')) (t : decide (1 ≤ d) = false) : Calls Try.prog 27 #[.int .i64 c, .agg #[.int .i64 y, .int .i64 m, .int .i64 d]] w fun e w' => e = .returned (.bool false) ∧ Below w.heap.size w w' := by
  have HB := Lib.hid (Below.refl w.heap.size w)
  have bd := Lib.hid (Bk.newAt w #[.int .i64 y, .int .i64 m, .int .i64 d] 28 (w.heap.size) (by simp))
  have HB := Lib.hid (kept_more (o := (.cells #[.int .i64 y, .int .i64 m, .int .i64 d] 28)) HB.out)
  go_enter Try.func27, Try.ntmps27
  go_wp2_with fail
  refine (hd.out _).mono ?_
  rintro e w2 ⟨rfl, hb⟩
  have bd := Lib.hid (bd.out.next hb)
  have HB := Lib.hid (bel_next HB.out hb)
  clear hb
  have bd_c0 := bd.out.cell 0
  have bd_c1 := bd.out.cell 1
  have bd_c2 := bd.out.cell 2
  go_wp2_with fail
  go_ret
  exact ⟨rfl, HB.out⟩

set_option maxRecDepth 100000 in
set_option maxHeartbeats 800000 in
theorem rValid_yes (c y m d v : Int) (w : World) (hd : Hid (∀ W, Calls Try.prog 23 #[.int .i64 c, .int .i64 y, .int .i64 m] W fun x w' => x = .returned (.tuple #[.int .i64 v, .int .i64 0]) ∧ Below W.heap.size W w')) (t : decide (1 ≤ d) = true) : Calls Try.prog 27 #[.int .i64 c, .agg #[.int .i64 y, .int .i64 m, .int .i64 d]] w fun e w' => e = .returned (.bool (decide (d ≤ v))) ∧ Below w.heap.size w w' := by
  have HB := Lib.hid (Below.refl w.heap.size w)
  have bd := Lib.hid (Bk.newAt w #[.int .i64 y, .int .i64 m, .int .i64 d] 28 (w.heap.size) (by simp))
  have HB := Lib.hid (kept_more (o := (.cells #[.int .i64 y, .int .i64 m, .int .i64 d] 28)) HB.out)
  go_enter Try.func27, Try.ntmps27
  go_wp2_with fail
  refine (hd.out _).mono ?_
  rintro e w2 ⟨rfl, hb⟩
  have bd := Lib.hid (bd.out.next hb)
  have HB := Lib.hid (bel_next HB.out hb)
  clear hb
  have bd_c0 := bd.out.cell 0
  have bd_c1 := bd.out.cell 1
  have bd_c2 := bd.out.cell 2
  go_wp2_with fail
  go_ret
  exact ⟨rfl, HB.out⟩

theorem rValid_any (c y m d : Int) (w : World) : Calls Try.prog 27 #[.int .i64 c, .agg #[.int .i64 y, .int .i64 m, .int .i64 d]] w fun e w' => e = .returned (.bool (validV c y m d)) ∧ Below w.heap.size w w' := by
  obtain ⟨v, e, he, hiff, hv, -, hd⟩ := rDays_all c y m
  by_cases h0 : e = 0
  · subst h0
    obtain ⟨hc, hy, hm⟩ := hiff.1 rfl
    by_cases h1 : 1 ≤ d
    · have ev : validV c y m d = decide (d ≤ v) := by
        unfold validV
        rw [decide_eq_true hc, Bool.true_and]
        exact decide_eq_decide.2 (by rw [hv rfl]; unfold Ok; have a := hy.1; have b := hy.2; omega)
      rw [ev]; exact rValid_yes c y m d v w (Lib.hid hd) (by simpa using h1)
    · have ev : validV c y m d = false := by
        unfold validV
        rw [decide_eq_true hc, Bool.true_and]
        exact decide_eq_false (by unfold Ok; omega)
      rw [ev]; exact rValid_low c y m d v w (Lib.hid hd) (by simpa using h1)
  · have ev : validV c y m d = false := by
      unfold validV
      by_cases hc : isCal c
      · rw [decide_eq_true hc, Bool.true_and]
        refine decide_eq_false fun hk => h0 (hiff.2 ⟨hc, ⟨hk.1, hk.2.1⟩, hk.2.2.1, hk.2.2.2.1⟩)
      · rw [decide_eq_false hc, Bool.false_and]
    rw [ev]; exact rValid_err c y m d v e w (Lib.hid hd) (by simpa using h0)

set_option maxRecDepth 100000 in
set_option maxHeartbeats 1600000 in
theorem rnumber_any (c y m d : Int) (w : World) (h : isCal c) (hok : Ok c y m d) : Calls Try.prog 59 #[.int .i64 c, .agg #[.int .i64 y, .int .i64 m, .int .i64 d]] w fun e w' => e = .returned (.int .i64 (num c y m d)) ∧ Below w.heap.size w w' := by
  obtain ⟨y0, y1, k0, k1, d0, d1⟩ := hok
  have hf := Lib.hid (fun W => first_ref c y W h (by omega) (by omega))
  have hda := Lib.hid (fun m W m0 m1 => rdays_any c y m W h m0 m1)
  obtain ⟨b0, b1⟩ := start_bd c y (by omega) (by omega)
  have d2 : d ≤ 31 := by have := dm_bd c y m; omega
  clear d1 h
  have HB := Lib.hid (Below.refl w.heap.size w)
  have bd := Lib.hid (Bk.newAt w #[.int .i64 y, .int .i64 m, .int .i64 d] 28 (w.heap.size) (by simp))
  have HB := Lib.hid (kept_more (o := (.cells #[.int .i64 y, .int .i64 m, .int .i64 d] 28)) HB.out)
  go_enter Try.func59, Try.ntmps59
  go_wp2_with fail
  refine (hf.out _).mono ?_
  rintro e w2 ⟨rfl, hb⟩
  have bd := Lib.hid (bd.out.next hb)
  have HB := Lib.hid (bel_next HB.out hb)
  clear hb
  have bd_c0 := bd.out.cell 0
  have bd_c1 := bd.out.cell 1
  have bd_c2 := bd.out.cell 2
  have HBL := HB
  go_wp2_with fail
  go_loop [5, 6] (fun n k => ∃ j : Int, 1 ≤ j ∧ j ≤ m ∧ k = .int .i64 j ∧ n = .int .i64 (start c y + cum c y j)) (fun _ k => (m - intOf k).toNat)
  case atStart => exact ⟨1, by omega, k0, rfl, by rw [cum_one]; simp⟩
  case round =>
    obtain ⟨j, j0, j1, rfl, rfl⟩ := hrel
    obtain ⟨q0, q1⟩ := cum_bd c y j (by omega) (by omega)
    obtain ⟨q2, q3⟩ := dm_bd c y j
    by_cases hlt : j < m
    · have hcs := Lib.hid (cum_succ c y j j0 (by omega))
      go_wp2_with fail
      refine (hda.out j _ (by omega) (by omega)).mono ?_
      rintro e w3 ⟨rfl, rfl⟩
      go_wp2_with fail
      go_round
      case rel => exact ⟨j + 1, by omega, by omega, rfl, by rw [hcs.out]; go_num⟩
      case measure => simp [intOf]; omega
    · obtain rfl : j = m := by omega
      have hn := Lib.hid (show start c y + cum c y j + d - 1 = num c y j d from rfl)
      go_wp2_with fail
      go_ret
      exact ⟨ret_int hn.out, HBL.out⟩

set_option maxRecDepth 100000 in
set_option maxHeartbeats 800000 in
theorem rNumber_nocal (c y m d : Int) (w : World) (h : ¬ isCal c) : Calls Try.prog 29 #[.int .i64 c, .agg #[.int .i64 y, .int .i64 m, .int .i64 d]] w fun e w' => e = .returned (.tuple #[.int .i64 0, .int .i64 20]) ∧ Below w.heap.size w w' := by
  have hn := Lib.hid (fun W => rname_no c W h)
  clear h
  have HB := Lib.hid (Below.refl w.heap.size w)
  have bd := Lib.hid (Bk.newAt w #[.int .i64 y, .int .i64 m, .int .i64 d] 28 (w.heap.size) (by simp))
  have HB := Lib.hid (kept_more (o := (.cells #[.int .i64 y, .int .i64 m, .int .i64 d] 28)) HB.out)
  go_enter Try.func29, Try.ntmps29
  go_wp2_with fail
  refine (hn.out _).mono ?_
  rintro e w2 ⟨rfl, hb⟩
  have bd := Lib.hid (bd.out.next hb)
  have HB := Lib.hid (bel_next HB.out hb)
  clear hb
  go_wp2_with fail
  go_ret2
  exact ⟨rfl, HB.out⟩

set_option maxRecDepth 100000 in
set_option maxHeartbeats 800000 in
theorem rNumber_no (c y m d : Int) (w : World) (h : isCal c) (hv : Hid (∀ W, Calls Try.prog 27 #[.int .i64 c, .agg #[.int .i64 y, .int .i64 m, .int .i64 d]] W fun e w' => e = .returned (.bool false) ∧ Below W.heap.size W w')) : Calls Try.prog 29 #[.int .i64 c, .agg #[.int .i64 y, .int .i64 m, .int .i64 d]] w fun e w' => e = .returned (.tuple #[.int .i64 0, .int .i64 21]) ∧ Below w.heap.size w w' := by
  obtain ⟨nm, hnm, hn'⟩ := rname_any c h
  obtain ⟨e1, e2⟩ := hnm
  have hn := Lib.hid hn'
  clear hn'
  have HB := Lib.hid (Below.refl w.heap.size w)
  have bd := Lib.hid (Bk.newAt w #[.int .i64 y, .int .i64 m, .int .i64 d] 28 (w.heap.size) (by simp))
  have HB := Lib.hid (kept_more (o := (.cells #[.int .i64 y, .int .i64 m, .int .i64 d] 28)) HB.out)
  go_enter Try.func29, Try.ntmps29
  go_wp2_with fail
  refine (hn.out _).mono ?_
  rintro e w2 ⟨rfl, hb⟩
  have bd := Lib.hid (bd.out.next hb)
  have HB := Lib.hid (bel_next HB.out hb)
  clear hb
  have bd_c0 := bd.out.cell 0
  have bd_c1 := bd.out.cell 1
  have bd_c2 := bd.out.cell 2
  go_wp2_with fail
  refine (hv.out _).mono ?_
  rintro e w3 ⟨rfl, hb⟩
  have bd := Lib.hid (bd.out.next hb)
  have HB := Lib.hid (bel_next HB.out hb)
  clear bd_c0 bd_c1 bd_c2
  clear hb
  go_wp2_with fail
  go_ret2
  exact ⟨rfl, HB.out⟩

set_option maxRecDepth 100000 in
set_option maxHeartbeats 800000 in
theorem rNumber_yes (c y m d : Int) (w : World) (h : isCal c) (hok : Ok c y m d) (hv : Hid (∀ W, Calls Try.prog 27 #[.int .i64 c, .agg #[.int .i64 y, .int .i64 m, .int .i64 d]] W fun e w' => e = .returned (.bool true) ∧ Below W.heap.size W w')) : Calls Try.prog 29 #[.int .i64 c, .agg #[.int .i64 y, .int .i64 m, .int .i64 d]] w fun e w' => e = .returned (.tuple #[.int .i64 (num c y m d), .int .i64 0]) ∧ Below w.heap.size w w' := by
  obtain ⟨nm, hnm, hn'⟩ := rname_any c h
  obtain ⟨e1, e2⟩ := hnm
  have hn := Lib.hid hn'
  clear hn'
  have hu := Lib.hid (fun W => rnumber_any c y m d W h hok)
  have HB := Lib.hid (Below.refl w.heap.size w)
  have bd := Lib.hid (Bk.newAt w #[.int .i64 y, .int .i64 m, .int .i64 d] 28 (w.heap.size) (by simp))
  have HB := Lib.hid (kept_more (o := (.cells #[.int .i64 y, .int .i64 m, .int .i64 d] 28)) HB.out)
  go_enter Try.func29, Try.ntmps29
  go_wp2_with fail
  refine (hn.out _).mono ?_
  rintro e w2 ⟨rfl, hb⟩
  have bd := Lib.hid (bd.out.next hb)
  have HB := Lib.hid (bel_next HB.out hb)
  clear hb
  have bd_c0 := bd.out.cell 0
  have bd_c1 := bd.out.cell 1
  have bd_c2 := bd.out.cell 2
  go_wp2_with fail
  refine (hv.out _).mono ?_
  rintro e w3 ⟨rfl, hb⟩
  have bd := Lib.hid (bd.out.next hb)
  have HB := Lib.hid (bel_next HB.out hb)
  clear bd_c0 bd_c1 bd_c2
  clear hb
  have bd_c0 := bd.out.cell 0
  have bd_c1 := bd.out.cell 1
  have bd_c2 := bd.out.cell 2
  go_wp2_with fail
  refine (hu.out _).mono ?_
  rintro e w4 ⟨rfl, hb⟩
  have bd := Lib.hid (bd.out.next hb)
  have HB := Lib.hid (bel_next HB.out hb)
  clear bd_c0 bd_c1 bd_c2
  clear hb
  go_wp2_with fail
  go_ret2
  exact ⟨rfl, HB.out⟩

theorem rNumber_any (c y m d : Int) (w : World) : Calls Try.prog 29 #[.int .i64 c, .agg #[.int .i64 y, .int .i64 m, .int .i64 d]] w fun e w' => e = .returned (.tuple #[.int .i64 (numV c y m d), .int .i64 (numE c y m d)]) ∧ Below w.heap.size w w' := by
  have hv := fun W => rValid_any c y m d W
  unfold numV numE
  by_cases hc : isCal c
  · by_cases hk : Ok c y m d
    · rw [if_pos ⟨hc, hk⟩, if_pos hc, if_pos hk]
      have ev : validV c y m d = true := by unfold validV; rw [decide_eq_true hc, ok_true hk]; rfl
      rw [ev] at hv
      exact rNumber_yes c y m d w hc hk (Lib.hid hv)
    · rw [if_neg (fun h => hk h.2), if_pos hc, if_neg hk]
      have ev : validV c y m d = false := by unfold validV; rw [decide_eq_true hc, show ok c y m d = false from decide_eq_false hk]; rfl
      rw [ev] at hv
      exact rNumber_no c y m d w hc (Lib.hid hv)
  · rw [if_neg (fun h => hc h.1), if_neg hc]; exact rNumber_nocal c y m d w hc
end Go.Proofs.Ythpeaeepcbbfcaa
