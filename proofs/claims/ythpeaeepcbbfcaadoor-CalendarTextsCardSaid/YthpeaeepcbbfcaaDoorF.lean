/- rulesOf. -/
import Derived.Test.YthpeaeepcbbfcaaDoorE
import Derived.Laws.EntriesVeiled
namespace Go.Proofs.YthpeaeepcbbfcaaDoor
open Go.RowKit

/-- What rulesOf returns of a calendar. -/
def RulesPost (c : Int) (w : World) (e : Ending) (w' : World) : Prop := ∃ r, e = .returned (.tuple #[r, .bool true]) ∧ IsRules c r ∧ Below w.heap.size w w'

set_option maxRecDepth 100000 in
set_option maxHeartbeats 800000 in
theorem rulesOf_1 (w : World) : Calls Tryd.prog 9 #[.int .i64 1] w (RulesPost 1 w) := by
  go_enter Tryd.func9, Tryd.ntmps9
  go_wp2_with fail
  refine bodyPost_ret (v := .tuple #[.agg #[.int .i64 31, .int .i64 28, .int .i64 31, .int .i64 30, .int .i64 31, .int .i64 30, .int .i64 31, .int .i64 31, .int .i64 30, .int .i64 31, .int .i64 30, .int .i64 31, .func (.func 20) #[] #[]], .bool true]) (by simp [results, Tryd.results9, go_sem]) rfl ?_
  refine ⟨_, rfl, rules1, ?_⟩
  exact ((Below.refl _ _).alloc (Nat.le_refl _) _).alloc (by simp) _

set_option maxRecDepth 100000 in
set_option maxHeartbeats 800000 in
theorem rulesOf_2 (w : World) : Calls Tryd.prog 9 #[.int .i64 2] w (RulesPost 2 w) := by
  go_enter Tryd.func9, Tryd.ntmps9
  go_wp2_with fail
  refine bodyPost_ret (v := .tuple #[.agg #[.int .i64 31, .int .i64 28, .int .i64 31, .int .i64 30, .int .i64 31, .int .i64 30, .int .i64 31, .int .i64 31, .int .i64 30, .int .i64 31, .int .i64 30, .int .i64 31, .func (.func 22) #[] #[]], .bool true]) (by simp [results, Tryd.results9, go_sem]) rfl ?_
  refine ⟨_, rfl, rules2, ?_⟩
  exact ((Below.refl _ _).alloc (Nat.le_refl _) _).alloc (by simp) _

set_option maxRecDepth 100000 in
set_option maxHeartbeats 800000 in
theorem rulesOf_3 (w : World) : Calls Tryd.prog 9 #[.int .i64 3] w (RulesPost 3 w) := by
  go_enter Tryd.func9, Tryd.ntmps9
  go_wp2_with fail
  refine bodyPost_ret (v := .tuple #[.agg #[.int .i64 31, .int .i64 28, .int .i64 31, .int .i64 30, .int .i64 31, .int .i64 30, .int .i64 31, .int .i64 31, .int .i64 30, .int .i64 31, .int .i64 30, .int .i64 31, .func (.func 19) #[] #[]], .bool true]) (by simp [results, Tryd.results9, go_sem]) rfl ?_
  refine ⟨_, rfl, rules3, ?_⟩
  exact ((Below.refl _ _).alloc (Nat.le_refl _) _).alloc (by simp) _

set_option maxRecDepth 100000 in
set_option maxHeartbeats 800000 in
theorem rulesOf_4 (w : World) : Calls Tryd.prog 9 #[.int .i64 4] w (RulesPost 4 w) := by
  go_enter Tryd.func9, Tryd.ntmps9
  go_wp2_with fail
  refine bodyPost_ret (v := .tuple #[.agg #[.int .i64 31, .int .i64 28, .int .i64 31, .int .i64 30, .int .i64 31, .int .i64 30, .int .i64 31, .int .i64 31, .int .i64 30, .int .i64 31, .int .i64 30, .int .i64 31, .func (.func 23) #[] #[]], .bool true]) (by simp [results, Tryd.results9, go_sem]) rfl ?_
  refine ⟨_, rfl, rules4, ?_⟩
  exact ((Below.refl _ _).alloc (Nat.le_refl _) _).alloc (by simp) _

set_option maxRecDepth 100000 in
set_option maxHeartbeats 800000 in
theorem rulesOf_5 (w : World) : Calls Tryd.prog 9 #[.int .i64 5] w (RulesPost 5 w) := by
  go_enter Tryd.func9, Tryd.ntmps9
  go_wp2_with fail
  refine bodyPost_ret (v := .tuple #[.agg #[.int .i64 30, .int .i64 30, .int .i64 30, .int .i64 30, .int .i64 30, .int .i64 30, .int .i64 30, .int .i64 30, .int .i64 30, .int .i64 30, .int .i64 30, .int .i64 30, .func (.func 19) #[] #[]], .bool true]) (by simp [results, Tryd.results9, go_sem]) rfl ?_
  refine ⟨_, rfl, rules5, ?_⟩
  exact ((Below.refl _ _).alloc (Nat.le_refl _) _).alloc (by simp) _

set_option maxRecDepth 100000 in
set_option maxHeartbeats 800000 in
theorem rulesOf_no (c : Int) (w : World) (h : ¬ isCal c) : Calls Tryd.prog 9 #[.int .i64 c] w fun e w' => e = .returned (.tuple #[.agg #[.int .i64 0, .int .i64 0, .int .i64 0, .int .i64 0, .int .i64 0, .int .i64 0, .int .i64 0, .int .i64 0, .int .i64 0, .int .i64 0, .int .i64 0, .int .i64 0, .nilFunc], .bool false]) ∧ Below w.heap.size w w' := by
  unfold isCal at h
  have h1 : (c == 1) = false := by simp; omega
  have h2 : (c == 2) = false := by simp; omega
  have h3 : (c == 3) = false := by simp; omega
  have h4 : (c == 4) = false := by simp; omega
  have h5 : (c == 5) = false := by simp; omega
  clear h
  go_enter Tryd.func9, Tryd.ntmps9
  go_wp2_with fail
  refine bodyPost_ret (v := .tuple #[.agg #[.int .i64 0, .int .i64 0, .int .i64 0, .int .i64 0, .int .i64 0, .int .i64 0, .int .i64 0, .int .i64 0, .int .i64 0, .int .i64 0, .int .i64 0, .int .i64 0, .nilFunc], .bool false]) (by simp [results, Tryd.results9, go_sem]) rfl ?_
  refine ⟨rfl, ?_⟩
  exact ((Below.refl _ _).alloc (Nat.le_refl _) _).alloc (by simp) _

theorem rulesOf_ok (c : Int) (w : World) (h : isCal c) : Calls Tryd.prog 9 #[.int .i64 c] w (RulesPost c w) := by
  unfold isCal at h
  have hc : c = 1 ∨ c = 2 ∨ c = 3 ∨ c = 4 ∨ c = 5 := by omega
  rcases hc with rfl | rfl | rfl | rfl | rfl
  · exact rulesOf_1 w
  · exact rulesOf_2 w
  · exact rulesOf_3 w
  · exact rulesOf_4 w
  · exact rulesOf_5 w

end Go.Proofs.YthpeaeepcbbfcaaDoor
