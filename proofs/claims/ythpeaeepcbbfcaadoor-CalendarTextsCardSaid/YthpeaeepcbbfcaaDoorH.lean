/- valid. -/
import Derived.Test.YthpeaeepcbbfcaaDoorG
namespace Go.Proofs.YthpeaeepcbbfcaaDoor
open Go.RowKit

def isY (y : Int) : Bool := decide (-9999 ≤ y ∧ y ≤ 9999)
def isM (m : Int) : Bool := decide (1 ≤ m ∧ m ≤ 12)
theorem isYear_yes (y : Int) (w : World) (h0 : -9999 ≤ y) (h1 : y ≤ 9999) : Calls Tryd.prog 24 #[.int .i64 y] w fun e w' => e = .returned (.bool true) ∧ w' = w := by
  go_enter Tryd.func24, Tryd.ntmps24
  go_wp2_with fail
  go_ret
  exact ⟨rfl, rfl⟩
theorem isYear_no (y : Int) (w : World) (h : ¬ (-9999 ≤ y ∧ y ≤ 9999)) : Calls Tryd.prog 24 #[.int .i64 y] w fun e w' => e = .returned (.bool false) ∧ w' = w := by
  by_cases h0 : -9999 ≤ y
  · have h1 : decide (y ≤ 9999) = false := by simp; omega
    have h0' : decide (-9999 ≤ y) = true := by simp; omega
    clear h
    go_enter Tryd.func24, Tryd.ntmps24
    go_wp2_with fail
    go_ret
    exact ⟨rfl, rfl⟩
  · have h0' : decide (-9999 ≤ y) = false := by simp; omega
    clear h h0
    go_enter Tryd.func24, Tryd.ntmps24
    go_wp2_with fail
    go_ret
    exact ⟨rfl, rfl⟩
theorem isMonth_yes (y : Int) (w : World) (h0 : 1 ≤ y) (h1 : y ≤ 12) : Calls Tryd.prog 25 #[.int .i64 y] w fun e w' => e = .returned (.bool true) ∧ w' = w := by
  go_enter Tryd.func25, Tryd.ntmps25
  go_wp2_with fail
  go_ret
  exact ⟨rfl, rfl⟩
theorem isMonth_no (y : Int) (w : World) (h : ¬ (1 ≤ y ∧ y ≤ 12)) : Calls Tryd.prog 25 #[.int .i64 y] w fun e w' => e = .returned (.bool false) ∧ w' = w := by
  by_cases h0 : 1 ≤ y
  · have h1 : decide (y ≤ 12) = false := by simp; omega
    have h0' : decide (1 ≤ y) = true := by simp; omega
    clear h
    go_enter Tryd.func25, Tryd.ntmps25
    go_wp2_with fail
    go_ret
    exact ⟨rfl, rfl⟩
  · have h0' : decide (1 ≤ y) = false := by simp; omega
    clear h h0
    go_enter Tryd.func25, Tryd.ntmps25
    go_wp2_with fail
    go_ret
    exact ⟨rfl, rfl⟩

set_option maxRecDepth 100000 in
set_option maxHeartbeats 1600000 in
theorem valid_y (m0 m1 m2 m3 m4 m5 m6 m7 m8 m9 m10 m11 : Int) (f : FuncId) (y m d : Int) (w : World) (h : ¬ (-9999 ≤ y ∧ y ≤ 9999)) :
    Calls Tryd.prog 10 #[.agg #[.int .i64 m0, .int .i64 m1, .int .i64 m2, .int .i64 m3, .int .i64 m4, .int .i64 m5, .int .i64 m6, .int .i64 m7, .int .i64 m8, .int .i64 m9, .int .i64 m10, .int .i64 m11, .func (.func f) #[] #[]], .agg #[.int .i64 y, .int .i64 m, .int .i64 d]] w fun e w' => e = .returned (.bool false) ∧ Below w.heap.size w w' := by
  have hy := Lib.hid (fun W => isYear_no y W h)
  clear h
  go_enter Tryd.func10, Tryd.ntmps10
  go_wp2_with fail
  go_quiet (exact Calls.quiet_of_same (hy.out _))
  go_wp2_with fail
  go_ret
  exact ⟨rfl, below_drewN (Boxes.start w).below _⟩

set_option maxRecDepth 100000 in
set_option maxHeartbeats 1600000 in
theorem valid_m (m0 m1 m2 m3 m4 m5 m6 m7 m8 m9 m10 m11 : Int) (f : FuncId) (y m d : Int) (w : World) (h0 : -9999 ≤ y) (h1 : y ≤ 9999) (h : ¬ (1 ≤ m ∧ m ≤ 12)) :
    Calls Tryd.prog 10 #[.agg #[.int .i64 m0, .int .i64 m1, .int .i64 m2, .int .i64 m3, .int .i64 m4, .int .i64 m5, .int .i64 m6, .int .i64 m7, .int .i64 m8, .int .i64 m9, .int .i64 m10, .int .i64 m11, .func (.func f) #[] #[]], .agg #[.int .i64 y, .int .i64 m, .int .i64 d]] w fun e w' => e = .returned (.bool false) ∧ Below w.heap.size w w' := by
  have hy := Lib.hid (fun W => isYear_yes y W h0 h1)
  have hm := Lib.hid (fun W => isMonth_no m W h)
  clear h
  go_enter Tryd.func10, Tryd.ntmps10
  go_wp2_with fail
  go_quiet (first | (go_at_call 24; exact Calls.quiet_of_same (hy.out _)) | (go_at_call 25; exact Calls.quiet_of_same (hm.out _)))
  go_wp2_with fail
  go_ret
  exact ⟨rfl, below_drewN (Boxes.start w).below _⟩

set_option maxRecDepth 100000 in
set_option maxHeartbeats 1600000 in
theorem valid_d (m0 m1 m2 m3 m4 m5 m6 m7 m8 m9 m10 m11 : Int) (f : FuncId) (y m d : Int) (w : World) (h0 : -9999 ≤ y) (h1 : y ≤ 9999) (m0' : 1 ≤ m) (m1' : m ≤ 12) (h : ¬ 1 ≤ d) :
    Calls Tryd.prog 10 #[.agg #[.int .i64 m0, .int .i64 m1, .int .i64 m2, .int .i64 m3, .int .i64 m4, .int .i64 m5, .int .i64 m6, .int .i64 m7, .int .i64 m8, .int .i64 m9, .int .i64 m10, .int .i64 m11, .func (.func f) #[] #[]], .agg #[.int .i64 y, .int .i64 m, .int .i64 d]] w fun e w' => e = .returned (.bool false) ∧ Below w.heap.size w w' := by
  have hy := Lib.hid (fun W => isYear_yes y W h0 h1)
  have hm := Lib.hid (fun W => isMonth_yes m W m0' m1')
  have hd : decide (1 ≤ d) = false := by simpa using h
  clear h
  go_enter Tryd.func10, Tryd.ntmps10
  go_wp2_with fail
  go_quiet (first | (go_at_call 24; exact Calls.quiet_of_same (hy.out _)) | (go_at_call 25; exact Calls.quiet_of_same (hm.out _)))
  go_wp2_with fail
  go_ret
  exact ⟨rfl, below_drewN (Boxes.start w).below _⟩

set_option maxRecDepth 100000 in
set_option maxHeartbeats 1600000 in
theorem valid_a (r : Value) (c y m d : Int) (w : World) (hr : IsRules c r) (h0 : -9999 ≤ y) (h1 : y ≤ 9999) (m0' : 1 ≤ m) (m1' : m ≤ 12) (dl : 1 ≤ d) :
    Calls Tryd.prog 10 #[r, .agg #[.int .i64 y, .int .i64 m, .int .i64 d]] w fun e w' => e = .returned (.bool (decide (d ≤ dm c y m))) ∧ Below w.heap.size w w' := by
  obtain ⟨m0, m1, m2, m3, m4, m5, m6, m7, m8, m9, m10, m11, f, rfl⟩ := hr.form
  have hda := Lib.hid hr.days
  have hy := Lib.hid (fun W => isYear_yes y W h0 h1)
  have hm := Lib.hid (fun W => isMonth_yes m W m0' m1')
  have hB := Lib.hid (Boxes.start (m0 := m0) (m1 := m1) (m2 := m2) (m3 := m3) (m4 := m4) (m5 := m5) (m6 := m6) (m7 := m7) (m8 := m8) (m9 := m9) (m10 := m10) (m11 := m11) (f := f) (y := y) (m := m) (d := d) w)
  have hd' : decide (1 ≤ d) = true := by simpa using dl
  clear hr
  go_enter Tryd.func10, Tryd.ntmps10
  go_wp2_with fail
  go_region_held3 (fun w' => Boxes w.heap.size m0 m1 m2 m3 m4 m5 m6 m7 m8 m9 m10 m11 f y m d w w' ∧ w'.cell? ⟨w.heap.size, 0, none⟩ = some (.int .i64 m0) ∧ w'.cell? ⟨w.heap.size, 1, none⟩ = some (.int .i64 m1) ∧ w'.cell? ⟨w.heap.size, 2, none⟩ = some (.int .i64 m2) ∧ w'.cell? ⟨w.heap.size, 3, none⟩ = some (.int .i64 m3) ∧ w'.cell? ⟨w.heap.size, 4, none⟩ = some (.int .i64 m4) ∧ w'.cell? ⟨w.heap.size, 5, none⟩ = some (.int .i64 m5) ∧ w'.cell? ⟨w.heap.size, 6, none⟩ = some (.int .i64 m6) ∧ w'.cell? ⟨w.heap.size, 7, none⟩ = some (.int .i64 m7) ∧ w'.cell? ⟨w.heap.size, 8, none⟩ = some (.int .i64 m8) ∧ w'.cell? ⟨w.heap.size, 9, none⟩ = some (.int .i64 m9) ∧ w'.cell? ⟨w.heap.size, 10, none⟩ = some (.int .i64 m10) ∧ w'.cell? ⟨w.heap.size, 11, none⟩ = some (.int .i64 m11) ∧ w'.cell? ⟨w.heap.size, 12, none⟩ = some (.func (.func f) #[] #[]) ∧ w'.cell? ⟨w.heap.size + 1, 0, none⟩ = some (.int .i64 y) ∧ w'.cell? ⟨w.heap.size + 1, 1, none⟩ = some (.int .i64 m) ∧ w'.cell? ⟨w.heap.size + 1, 2, none⟩ = some (.int .i64 d))
    (first | exact Boxes.all (Boxes.drew hB.out) | exact Boxes.all hB.out | (go_split_ands; exact Boxes.all (Boxes.next (by assumption) hb1)) | go_keep)
    (first | (go_at_call 24; refine (hy.out _).mono ?_; rintro e w1 ⟨rfl, rfl⟩) | (go_at_call 25; refine (hm.out _).mono ?_; rintro e w1 ⟨rfl, rfl⟩) | (go_at_call 26; go_split_ands; refine (hda.out y m _ (by omega) (by omega) (by omega) (by omega)).mono ?_; rintro e w1 ⟨rfl, hb1⟩; have hB1 := Boxes.next (by assumption) hb1))
  go_wp2_with fail
  go_ret
  exact ⟨rfl, hB1.below⟩

theorem valid_any (r : Value) (c y m d : Int) (w : World) (hr : IsRules c r) :
    Calls Tryd.prog 10 #[r, .agg #[.int .i64 y, .int .i64 m, .int .i64 d]] w fun e w' => e = .returned (.bool (ok c y m d)) ∧ Below w.heap.size w w' := by
  obtain ⟨m0, m1, m2, m3, m4, m5, m6, m7, m8, m9, m10, m11, f, hf⟩ := hr.form
  by_cases hy : -9999 ≤ y ∧ y ≤ 9999
  · by_cases hm : 1 ≤ m ∧ m ≤ 12
    · by_cases hd : 1 ≤ d
      · have e : ok c y m d = decide (d ≤ dm c y m) := decide_eq_decide.2 (by unfold Ok; omega)
        rw [e]; exact valid_a r c y m d w hr hy.1 hy.2 hm.1 hm.2 hd
      · have e : ok c y m d = false := decide_eq_false (by unfold Ok; omega)
        rw [e, hf]; exact valid_d _ _ _ _ _ _ _ _ _ _ _ _ f y m d w hy.1 hy.2 hm.1 hm.2 hd
    · have e : ok c y m d = false := decide_eq_false (by unfold Ok; omega)
      rw [e, hf]; exact valid_m _ _ _ _ _ _ _ _ _ _ _ _ f y m d w hy.1 hy.2 hm
  · have e : ok c y m d = false := decide_eq_false (by unfold Ok; omega)
    rw [e, hf]; exact valid_y _ _ _ _ _ _ _ _ _ _ _ _ f y m d w hy
end Go.Proofs.YthpeaeepcbbfcaaDoor
