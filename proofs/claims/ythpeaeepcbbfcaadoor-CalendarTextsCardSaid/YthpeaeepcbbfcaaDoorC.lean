/- The rules of a calendar: start, days. -/
import Derived.Test.YthpeaeepcbbfcaaDoorB
namespace Go.Proofs.YthpeaeepcbbfcaaDoor
open Go.RowKit

/-- The days of the months of a common year. -/
def mL (b : Bool) : List Int := if b then [30, 30, 30, 30, 30, 30, 30, 30, 30, 30, 30, 30] else [31, 28, 31, 30, 31, 30, 31, 31, 30, 31, 30, 31]
def psum : List Int → Nat → Int
  | _, 0 => 0
  | [], _ + 1 => 0
  | a :: l, k + 1 => a + psum l k
theorem psum_succ (l : List Int) (k : Nat) : psum l (k + 1) = psum l k + l.getD k 0 := by
  induction l generalizing k with
  | nil => cases k <;> simp [psum]
  | cons a l ih =>
    cases k with
    | zero => simp [psum]
    | succ k => simp only [psum, ih, List.getD_cons_succ]; omega
theorem psum_bd : ∀ (b : Bool) (k : Fin 13), 0 ≤ psum (mL b) k ∧ psum (mL b) k ≤ 366 := by decide
theorem mL_bd : ∀ (b : Bool) (k : Fin 12), 28 ≤ (mL b).getD k 0 ∧ (mL b).getD k 0 ≤ 31 := by decide
theorem psum_f : psum (mL false) 12 = 365 := by decide
theorem psum_t : psum (mL true) 12 = 360 := by decide

theorem index_false_0 : ∀ w, (Instr.index 31 (.agg #[.int .i64 31, .int .i64 28, .int .i64 31, .int .i64 30, .int .i64 31, .int .i64 30, .int .i64 31, .int .i64 31, .int .i64 30, .int .i64 31, .int .i64 30, .int .i64 31]) (.int .i64 ((0 : Nat) : Int))).run Tryd.prog w = .ok (.int .i64 ((mL false).getD 0 0)) w := fun _ => by kernel_rfl
theorem index_false_1 : ∀ w, (Instr.index 31 (.agg #[.int .i64 31, .int .i64 28, .int .i64 31, .int .i64 30, .int .i64 31, .int .i64 30, .int .i64 31, .int .i64 31, .int .i64 30, .int .i64 31, .int .i64 30, .int .i64 31]) (.int .i64 ((1 : Nat) : Int))).run Tryd.prog w = .ok (.int .i64 ((mL false).getD 1 0)) w := fun _ => by kernel_rfl
theorem index_false_2 : ∀ w, (Instr.index 31 (.agg #[.int .i64 31, .int .i64 28, .int .i64 31, .int .i64 30, .int .i64 31, .int .i64 30, .int .i64 31, .int .i64 31, .int .i64 30, .int .i64 31, .int .i64 30, .int .i64 31]) (.int .i64 ((2 : Nat) : Int))).run Tryd.prog w = .ok (.int .i64 ((mL false).getD 2 0)) w := fun _ => by kernel_rfl
theorem index_false_3 : ∀ w, (Instr.index 31 (.agg #[.int .i64 31, .int .i64 28, .int .i64 31, .int .i64 30, .int .i64 31, .int .i64 30, .int .i64 31, .int .i64 31, .int .i64 30, .int .i64 31, .int .i64 30, .int .i64 31]) (.int .i64 ((3 : Nat) : Int))).run Tryd.prog w = .ok (.int .i64 ((mL false).getD 3 0)) w := fun _ => by kernel_rfl
theorem index_false_4 : ∀ w, (Instr.index 31 (.agg #[.int .i64 31, .int .i64 28, .int .i64 31, .int .i64 30, .int .i64 31, .int .i64 30, .int .i64 31, .int .i64 31, .int .i64 30, .int .i64 31, .int .i64 30, .int .i64 31]) (.int .i64 ((4 : Nat) : Int))).run Tryd.prog w = .ok (.int .i64 ((mL false).getD 4 0)) w := fun _ => by kernel_rfl
theorem index_false_5 : ∀ w, (Instr.index 31 (.agg #[.int .i64 31, .int .i64 28, .int .i64 31, .int .i64 30, .int .i64 31, .int .i64 30, .int .i64 31, .int .i64 31, .int .i64 30, .int .i64 31, .int .i64 30, .int .i64 31]) (.int .i64 ((5 : Nat) : Int))).run Tryd.prog w = .ok (.int .i64 ((mL false).getD 5 0)) w := fun _ => by kernel_rfl
theorem index_false_6 : ∀ w, (Instr.index 31 (.agg #[.int .i64 31, .int .i64 28, .int .i64 31, .int .i64 30, .int .i64 31, .int .i64 30, .int .i64 31, .int .i64 31, .int .i64 30, .int .i64 31, .int .i64 30, .int .i64 31]) (.int .i64 ((6 : Nat) : Int))).run Tryd.prog w = .ok (.int .i64 ((mL false).getD 6 0)) w := fun _ => by kernel_rfl
theorem index_false_7 : ∀ w, (Instr.index 31 (.agg #[.int .i64 31, .int .i64 28, .int .i64 31, .int .i64 30, .int .i64 31, .int .i64 30, .int .i64 31, .int .i64 31, .int .i64 30, .int .i64 31, .int .i64 30, .int .i64 31]) (.int .i64 ((7 : Nat) : Int))).run Tryd.prog w = .ok (.int .i64 ((mL false).getD 7 0)) w := fun _ => by kernel_rfl
theorem index_false_8 : ∀ w, (Instr.index 31 (.agg #[.int .i64 31, .int .i64 28, .int .i64 31, .int .i64 30, .int .i64 31, .int .i64 30, .int .i64 31, .int .i64 31, .int .i64 30, .int .i64 31, .int .i64 30, .int .i64 31]) (.int .i64 ((8 : Nat) : Int))).run Tryd.prog w = .ok (.int .i64 ((mL false).getD 8 0)) w := fun _ => by kernel_rfl
theorem index_false_9 : ∀ w, (Instr.index 31 (.agg #[.int .i64 31, .int .i64 28, .int .i64 31, .int .i64 30, .int .i64 31, .int .i64 30, .int .i64 31, .int .i64 31, .int .i64 30, .int .i64 31, .int .i64 30, .int .i64 31]) (.int .i64 ((9 : Nat) : Int))).run Tryd.prog w = .ok (.int .i64 ((mL false).getD 9 0)) w := fun _ => by kernel_rfl
theorem index_false_10 : ∀ w, (Instr.index 31 (.agg #[.int .i64 31, .int .i64 28, .int .i64 31, .int .i64 30, .int .i64 31, .int .i64 30, .int .i64 31, .int .i64 31, .int .i64 30, .int .i64 31, .int .i64 30, .int .i64 31]) (.int .i64 ((10 : Nat) : Int))).run Tryd.prog w = .ok (.int .i64 ((mL false).getD 10 0)) w := fun _ => by kernel_rfl
theorem index_false_11 : ∀ w, (Instr.index 31 (.agg #[.int .i64 31, .int .i64 28, .int .i64 31, .int .i64 30, .int .i64 31, .int .i64 30, .int .i64 31, .int .i64 31, .int .i64 30, .int .i64 31, .int .i64 30, .int .i64 31]) (.int .i64 ((11 : Nat) : Int))).run Tryd.prog w = .ok (.int .i64 ((mL false).getD 11 0)) w := fun _ => by kernel_rfl
theorem index_false (k : Nat) (h : k < 12) : ∀ w, (Instr.index 31 (.agg #[.int .i64 31, .int .i64 28, .int .i64 31, .int .i64 30, .int .i64 31, .int .i64 30, .int .i64 31, .int .i64 31, .int .i64 30, .int .i64 31, .int .i64 30, .int .i64 31]) (.int .i64 (k : Int))).run Tryd.prog w = .ok (.int .i64 ((mL false).getD k 0)) w := by
  have hk : k = 0 ∨ k = 1 ∨ k = 2 ∨ k = 3 ∨ k = 4 ∨ k = 5 ∨ k = 6 ∨ k = 7 ∨ k = 8 ∨ k = 9 ∨ k = 10 ∨ k = 11 := by omega
  rcases hk with rfl | rfl | rfl | rfl | rfl | rfl | rfl | rfl | rfl | rfl | rfl | rfl
  · exact index_false_0
  · exact index_false_1
  · exact index_false_2
  · exact index_false_3
  · exact index_false_4
  · exact index_false_5
  · exact index_false_6
  · exact index_false_7
  · exact index_false_8
  · exact index_false_9
  · exact index_false_10
  · exact index_false_11

set_option maxRecDepth 100000 in
set_option maxHeartbeats 800000 in
theorem start_false (f : FuncId) (c y : Int) (w : World) (hc : Hid (Counts c f)) (h0 : -10000 ≤ y) (h1 : y ≤ 10000) :
    Calls Tryd.prog 46 #[.agg #[.int .i64 31, .int .i64 28, .int .i64 31, .int .i64 30, .int .i64 31, .int .i64 30, .int .i64 31, .int .i64 31, .int .i64 30, .int .i64 31, .int .i64 30, .int .i64 31, .func (.func f) #[] #[]], .int .i64 y] w fun e w' => e = .returned (.int .i64 (y * 365 + lps c y)) ∧ w' = w.alloc (.cells #[.int .i64 31, .int .i64 28, .int .i64 31, .int .i64 30, .int .i64 31, .int .i64 30, .int .i64 31, .int .i64 31, .int .i64 30, .int .i64 31, .int .i64 30, .int .i64 31, .func (.func f) #[] #[]] 34) := by
  have hent := hc.out.1
  have a2 := Lib.hid (hc.out.2 y)
  have b1 := lps_bd c y
  have b3 : -20000 ≤ lps c y ∧ lps c y ≤ 20000 := by omega
  clear b1
  obtain ⟨c1, c2⟩ := b3
  go_enter Tryd.func46, Tryd.ntmps46
  go_wp2_with fail
  go_loop [5, 10] (fun cm i => ∃ k : Nat, k ≤ 12 ∧ i = .int .i64 k ∧ cm = .int .i64 (psum (mL false) k)) (fun _ i => 12 - (intOf i).toNat)
  case atStart => exact ⟨0, by omega, rfl, rfl⟩
  case round =>
    obtain ⟨k, hk, rfl, rfl⟩ := hrel
    obtain ⟨p1, p2⟩ := psum_bd false ⟨k, by omega⟩
    by_cases hlt : k < 12
    · have hi := index_false k hlt
      obtain ⟨q1, q2⟩ := mL_bd false ⟨k, hlt⟩
      have hs := Lib.hid (psum_succ (mL false) k)
      generalize (mL false).getD k 0 = d at *
      dsimp only at p1 p2 q1 q2
      go_wp2
      go_round
      case rel => exact ⟨k + 1, by omega, by go_num, by rw [hs.out]⟩
      case measure => simp [intOf]; omega
    · obtain rfl : k = 12 := by omega
      have e : psum (mL false) 12 = 365 := psum_f
      simp only [e] at *
      clear e
      go_wp2_with fail
      refine (a2.out _ (by omega) (by omega)).mono ?_
      rintro e w' ⟨rfl, rfl⟩
      go_wp2_with fail
      go_ret
      exact ⟨rfl, rfl⟩

theorem index_true_0 : ∀ w, (Instr.index 31 (.agg #[.int .i64 30, .int .i64 30, .int .i64 30, .int .i64 30, .int .i64 30, .int .i64 30, .int .i64 30, .int .i64 30, .int .i64 30, .int .i64 30, .int .i64 30, .int .i64 30]) (.int .i64 ((0 : Nat) : Int))).run Tryd.prog w = .ok (.int .i64 ((mL true).getD 0 0)) w := fun _ => by kernel_rfl
theorem index_true_1 : ∀ w, (Instr.index 31 (.agg #[.int .i64 30, .int .i64 30, .int .i64 30, .int .i64 30, .int .i64 30, .int .i64 30, .int .i64 30, .int .i64 30, .int .i64 30, .int .i64 30, .int .i64 30, .int .i64 30]) (.int .i64 ((1 : Nat) : Int))).run Tryd.prog w = .ok (.int .i64 ((mL true).getD 1 0)) w := fun _ => by kernel_rfl
theorem index_true_2 : ∀ w, (Instr.index 31 (.agg #[.int .i64 30, .int .i64 30, .int .i64 30, .int .i64 30, .int .i64 30, .int .i64 30, .int .i64 30, .int .i64 30, .int .i64 30, .int .i64 30, .int .i64 30, .int .i64 30]) (.int .i64 ((2 : Nat) : Int))).run Tryd.prog w = .ok (.int .i64 ((mL true).getD 2 0)) w := fun _ => by kernel_rfl
theorem index_true_3 : ∀ w, (Instr.index 31 (.agg #[.int .i64 30, .int .i64 30, .int .i64 30, .int .i64 30, .int .i64 30, .int .i64 30, .int .i64 30, .int .i64 30, .int .i64 30, .int .i64 30, .int .i64 30, .int .i64 30]) (.int .i64 ((3 : Nat) : Int))).run Tryd.prog w = .ok (.int .i64 ((mL true).getD 3 0)) w := fun _ => by kernel_rfl
theorem index_true_4 : ∀ w, (Instr.index 31 (.agg #[.int .i64 30, .int .i64 30, .int .i64 30, .int .i64 30, .int .i64 30, .int .i64 30, .int .i64 30, .int .i64 30, .int .i64 30, .int .i64 30, .int .i64 30, .int .i64 30]) (.int .i64 ((4 : Nat) : Int))).run Tryd.prog w = .ok (.int .i64 ((mL true).getD 4 0)) w := fun _ => by kernel_rfl
theorem index_true_5 : ∀ w, (Instr.index 31 (.agg #[.int .i64 30, .int .i64 30, .int .i64 30, .int .i64 30, .int .i64 30, .int .i64 30, .int .i64 30, .int .i64 30, .int .i64 30, .int .i64 30, .int .i64 30, .int .i64 30]) (.int .i64 ((5 : Nat) : Int))).run Tryd.prog w = .ok (.int .i64 ((mL true).getD 5 0)) w := fun _ => by kernel_rfl
theorem index_true_6 : ∀ w, (Instr.index 31 (.agg #[.int .i64 30, .int .i64 30, .int .i64 30, .int .i64 30, .int .i64 30, .int .i64 30, .int .i64 30, .int .i64 30, .int .i64 30, .int .i64 30, .int .i64 30, .int .i64 30]) (.int .i64 ((6 : Nat) : Int))).run Tryd.prog w = .ok (.int .i64 ((mL true).getD 6 0)) w := fun _ => by kernel_rfl
theorem index_true_7 : ∀ w, (Instr.index 31 (.agg #[.int .i64 30, .int .i64 30, .int .i64 30, .int .i64 30, .int .i64 30, .int .i64 30, .int .i64 30, .int .i64 30, .int .i64 30, .int .i64 30, .int .i64 30, .int .i64 30]) (.int .i64 ((7 : Nat) : Int))).run Tryd.prog w = .ok (.int .i64 ((mL true).getD 7 0)) w := fun _ => by kernel_rfl
theorem index_true_8 : ∀ w, (Instr.index 31 (.agg #[.int .i64 30, .int .i64 30, .int .i64 30, .int .i64 30, .int .i64 30, .int .i64 30, .int .i64 30, .int .i64 30, .int .i64 30, .int .i64 30, .int .i64 30, .int .i64 30]) (.int .i64 ((8 : Nat) : Int))).run Tryd.prog w = .ok (.int .i64 ((mL true).getD 8 0)) w := fun _ => by kernel_rfl
theorem index_true_9 : ∀ w, (Instr.index 31 (.agg #[.int .i64 30, .int .i64 30, .int .i64 30, .int .i64 30, .int .i64 30, .int .i64 30, .int .i64 30, .int .i64 30, .int .i64 30, .int .i64 30, .int .i64 30, .int .i64 30]) (.int .i64 ((9 : Nat) : Int))).run Tryd.prog w = .ok (.int .i64 ((mL true).getD 9 0)) w := fun _ => by kernel_rfl
theorem index_true_10 : ∀ w, (Instr.index 31 (.agg #[.int .i64 30, .int .i64 30, .int .i64 30, .int .i64 30, .int .i64 30, .int .i64 30, .int .i64 30, .int .i64 30, .int .i64 30, .int .i64 30, .int .i64 30, .int .i64 30]) (.int .i64 ((10 : Nat) : Int))).run Tryd.prog w = .ok (.int .i64 ((mL true).getD 10 0)) w := fun _ => by kernel_rfl
theorem index_true_11 : ∀ w, (Instr.index 31 (.agg #[.int .i64 30, .int .i64 30, .int .i64 30, .int .i64 30, .int .i64 30, .int .i64 30, .int .i64 30, .int .i64 30, .int .i64 30, .int .i64 30, .int .i64 30, .int .i64 30]) (.int .i64 ((11 : Nat) : Int))).run Tryd.prog w = .ok (.int .i64 ((mL true).getD 11 0)) w := fun _ => by kernel_rfl
theorem index_true (k : Nat) (h : k < 12) : ∀ w, (Instr.index 31 (.agg #[.int .i64 30, .int .i64 30, .int .i64 30, .int .i64 30, .int .i64 30, .int .i64 30, .int .i64 30, .int .i64 30, .int .i64 30, .int .i64 30, .int .i64 30, .int .i64 30]) (.int .i64 (k : Int))).run Tryd.prog w = .ok (.int .i64 ((mL true).getD k 0)) w := by
  have hk : k = 0 ∨ k = 1 ∨ k = 2 ∨ k = 3 ∨ k = 4 ∨ k = 5 ∨ k = 6 ∨ k = 7 ∨ k = 8 ∨ k = 9 ∨ k = 10 ∨ k = 11 := by omega
  rcases hk with rfl | rfl | rfl | rfl | rfl | rfl | rfl | rfl | rfl | rfl | rfl | rfl
  · exact index_true_0
  · exact index_true_1
  · exact index_true_2
  · exact index_true_3
  · exact index_true_4
  · exact index_true_5
  · exact index_true_6
  · exact index_true_7
  · exact index_true_8
  · exact index_true_9
  · exact index_true_10
  · exact index_true_11

set_option maxRecDepth 100000 in
set_option maxHeartbeats 800000 in
theorem start_true (f : FuncId) (c y : Int) (w : World) (hc : Hid (Counts c f)) (h0 : -10000 ≤ y) (h1 : y ≤ 10000) :
    Calls Tryd.prog 46 #[.agg #[.int .i64 30, .int .i64 30, .int .i64 30, .int .i64 30, .int .i64 30, .int .i64 30, .int .i64 30, .int .i64 30, .int .i64 30, .int .i64 30, .int .i64 30, .int .i64 30, .func (.func f) #[] #[]], .int .i64 y] w fun e w' => e = .returned (.int .i64 (y * 360 + lps c y)) ∧ w' = w.alloc (.cells #[.int .i64 30, .int .i64 30, .int .i64 30, .int .i64 30, .int .i64 30, .int .i64 30, .int .i64 30, .int .i64 30, .int .i64 30, .int .i64 30, .int .i64 30, .int .i64 30, .func (.func f) #[] #[]] 34) := by
  have hent := hc.out.1
  have a2 := Lib.hid (hc.out.2 y)
  have b1 := lps_bd c y
  have b3 : -20000 ≤ lps c y ∧ lps c y ≤ 20000 := by omega
  clear b1
  obtain ⟨c1, c2⟩ := b3
  go_enter Tryd.func46, Tryd.ntmps46
  go_wp2_with fail
  go_loop [5, 10] (fun cm i => ∃ k : Nat, k ≤ 12 ∧ i = .int .i64 k ∧ cm = .int .i64 (psum (mL true) k)) (fun _ i => 12 - (intOf i).toNat)
  case atStart => exact ⟨0, by omega, rfl, rfl⟩
  case round =>
    obtain ⟨k, hk, rfl, rfl⟩ := hrel
    obtain ⟨p1, p2⟩ := psum_bd true ⟨k, by omega⟩
    by_cases hlt : k < 12
    · have hi := index_true k hlt
      obtain ⟨q1, q2⟩ := mL_bd true ⟨k, hlt⟩
      have hs := Lib.hid (psum_succ (mL true) k)
      generalize (mL true).getD k 0 = d at *
      dsimp only at p1 p2 q1 q2
      go_wp2
      go_round
      case rel => exact ⟨k + 1, by omega, by go_num, by rw [hs.out]⟩
      case measure => simp [intOf]; omega
    · obtain rfl : k = 12 := by omega
      have e : psum (mL true) 12 = 360 := psum_t
      simp only [e] at *
      clear e
      go_wp2_with fail
      refine (a2.out _ (by omega) (by omega)).mono ?_
      rintro e w' ⟨rfl, rfl⟩
      go_wp2_with fail
      go_ret
      exact ⟨rfl, rfl⟩
end Go.Proofs.YthpeaeepcbbfcaaDoor
