/- The program's Fits. -/
import Derived.Test.YtigidchicloleaaGreatDoorTB
set_option maxHeartbeats 3200000
set_option maxRecDepth 100000
namespace Go.Proofs.YtigidchicloleaaGreatDoor
open Go.RowKit Big
open Go.Lib
def fitT (kind : Int) (l : List UInt8) : Bool :=
  if kind = 1 then l.isEmpty || (intT 8 l).isSome else if kind = 2 then l.isEmpty || (intT 16 l).isSome else if kind = 3 then l.isEmpty || (intT 32 l).isSome
  else if kind = 4 then l.isEmpty || (intT 64 l).isSome else if kind = 5 then l.isEmpty || (num l).isSome else false
theorem pfits1_nil (z : Int) (f : Bool) (w : World) (h76 : Hid (∀ W, Below w.heap.size w W → Calls Tryz.prog 116 #[.string ⟨#[]⟩, .int .i64 8] W fun e w' => e = .returned (.tuple #[.int .i64 z, .bool f]) ∧ Below W.heap.size W w')) : Calls Tryz.prog 86 #[.int .i64 1, .string ⟨#[]⟩] w fun e w' => e = .returned (.bool true) ∧ Below w.heap.size w w' := by
  go_enter Tryz.func86, Tryz.ntmps86
  go_wp2_with fail
  refine (h76.out _ (Below.refl _ _)).mono ?_
  rintro e w1 ⟨rfl, hb⟩
  have B1 := hiD (hb)
  clear hb
  go_wp2_with fail
  go_ret
  exact ⟨rfl, B1.out⟩
theorem pfits1_some (l : List UInt8) (_hl : ¬ l = []) (hl2 : l.isEmpty = false) (z : Int) (f : Bool) (w : World) (h76 : Hid (∀ W, Below w.heap.size w W → Calls Tryz.prog 116 #[.string ⟨l.toArray⟩, .int .i64 8] W fun e w' => e = .returned (.tuple #[.int .i64 z, .bool f]) ∧ Below W.heap.size W w')) : Calls Tryz.prog 86 #[.int .i64 1, .string ⟨l.toArray⟩] w fun e w' => e = .returned (.bool f) ∧ Below w.heap.size w w' := by
  go_enter Tryz.func86, Tryz.ntmps86
  go_wp2_with fail
  refine (h76.out _ (Below.refl _ _)).mono ?_
  rintro e w1 ⟨rfl, hb⟩
  have B1 := hiD (hb)
  clear hb
  go_wp2_with fail
  go_ret
  exact ⟨rfl, B1.out⟩
theorem pfits2_nil (z : Int) (f : Bool) (w : World) (h76 : Hid (∀ W, Below w.heap.size w W → Calls Tryz.prog 116 #[.string ⟨#[]⟩, .int .i64 16] W fun e w' => e = .returned (.tuple #[.int .i64 z, .bool f]) ∧ Below W.heap.size W w')) : Calls Tryz.prog 86 #[.int .i64 2, .string ⟨#[]⟩] w fun e w' => e = .returned (.bool true) ∧ Below w.heap.size w w' := by
  go_enter Tryz.func86, Tryz.ntmps86
  go_wp2_with fail
  refine (h76.out _ (Below.refl _ _)).mono ?_
  rintro e w1 ⟨rfl, hb⟩
  have B1 := hiD (hb)
  clear hb
  go_wp2_with fail
  go_ret
  exact ⟨rfl, B1.out⟩
theorem pfits2_some (l : List UInt8) (_hl : ¬ l = []) (hl2 : l.isEmpty = false) (z : Int) (f : Bool) (w : World) (h76 : Hid (∀ W, Below w.heap.size w W → Calls Tryz.prog 116 #[.string ⟨l.toArray⟩, .int .i64 16] W fun e w' => e = .returned (.tuple #[.int .i64 z, .bool f]) ∧ Below W.heap.size W w')) : Calls Tryz.prog 86 #[.int .i64 2, .string ⟨l.toArray⟩] w fun e w' => e = .returned (.bool f) ∧ Below w.heap.size w w' := by
  go_enter Tryz.func86, Tryz.ntmps86
  go_wp2_with fail
  refine (h76.out _ (Below.refl _ _)).mono ?_
  rintro e w1 ⟨rfl, hb⟩
  have B1 := hiD (hb)
  clear hb
  go_wp2_with fail
  go_ret
  exact ⟨rfl, B1.out⟩
theorem pfits3_nil (z : Int) (f : Bool) (w : World) (h76 : Hid (∀ W, Below w.heap.size w W → Calls Tryz.prog 116 #[.string ⟨#[]⟩, .int .i64 32] W fun e w' => e = .returned (.tuple #[.int .i64 z, .bool f]) ∧ Below W.heap.size W w')) : Calls Tryz.prog 86 #[.int .i64 3, .string ⟨#[]⟩] w fun e w' => e = .returned (.bool true) ∧ Below w.heap.size w w' := by
  go_enter Tryz.func86, Tryz.ntmps86
  go_wp2_with fail
  refine (h76.out _ (Below.refl _ _)).mono ?_
  rintro e w1 ⟨rfl, hb⟩
  have B1 := hiD (hb)
  clear hb
  go_wp2_with fail
  go_ret
  exact ⟨rfl, B1.out⟩
theorem pfits3_some (l : List UInt8) (_hl : ¬ l = []) (hl2 : l.isEmpty = false) (z : Int) (f : Bool) (w : World) (h76 : Hid (∀ W, Below w.heap.size w W → Calls Tryz.prog 116 #[.string ⟨l.toArray⟩, .int .i64 32] W fun e w' => e = .returned (.tuple #[.int .i64 z, .bool f]) ∧ Below W.heap.size W w')) : Calls Tryz.prog 86 #[.int .i64 3, .string ⟨l.toArray⟩] w fun e w' => e = .returned (.bool f) ∧ Below w.heap.size w w' := by
  go_enter Tryz.func86, Tryz.ntmps86
  go_wp2_with fail
  refine (h76.out _ (Below.refl _ _)).mono ?_
  rintro e w1 ⟨rfl, hb⟩
  have B1 := hiD (hb)
  clear hb
  go_wp2_with fail
  go_ret
  exact ⟨rfl, B1.out⟩
theorem pfits4_nil (z : Int) (f : Bool) (w : World) (h76 : Hid (∀ W, Below w.heap.size w W → Calls Tryz.prog 116 #[.string ⟨#[]⟩, .int .i64 64] W fun e w' => e = .returned (.tuple #[.int .i64 z, .bool f]) ∧ Below W.heap.size W w')) : Calls Tryz.prog 86 #[.int .i64 4, .string ⟨#[]⟩] w fun e w' => e = .returned (.bool true) ∧ Below w.heap.size w w' := by
  go_enter Tryz.func86, Tryz.ntmps86
  go_wp2_with fail
  refine (h76.out _ (Below.refl _ _)).mono ?_
  rintro e w1 ⟨rfl, hb⟩
  have B1 := hiD (hb)
  clear hb
  go_wp2_with fail
  go_ret
  exact ⟨rfl, B1.out⟩
theorem pfits4_some (l : List UInt8) (_hl : ¬ l = []) (hl2 : l.isEmpty = false) (z : Int) (f : Bool) (w : World) (h76 : Hid (∀ W, Below w.heap.size w W → Calls Tryz.prog 116 #[.string ⟨l.toArray⟩, .int .i64 64] W fun e w' => e = .returned (.tuple #[.int .i64 z, .bool f]) ∧ Below W.heap.size W w')) : Calls Tryz.prog 86 #[.int .i64 4, .string ⟨l.toArray⟩] w fun e w' => e = .returned (.bool f) ∧ Below w.heap.size w w' := by
  go_enter Tryz.func86, Tryz.ntmps86
  go_wp2_with fail
  refine (h76.out _ (Below.refl _ _)).mono ?_
  rintro e w1 ⟨rfl, hb⟩
  have B1 := hiD (hb)
  clear hb
  go_wp2_with fail
  go_ret
  exact ⟨rfl, B1.out⟩
theorem pfits5_nil (w : World) : Calls Tryz.prog 86 #[.int .i64 5, .string ⟨#[]⟩] w fun e w' => e = .returned (.bool true) ∧ Below w.heap.size w w' := by
  go_enter Tryz.func86, Tryz.ntmps86
  go_wp2_with fail
  go_ret
  exact ⟨rfl, Below.refl _ _⟩
theorem pfits5_some (l : List UInt8) (_hl : ¬ l = []) (hl2 : l.isEmpty = false) (f : Bool) (w : World) (h19 : Hid (∀ W, Below w.heap.size w W → Calls Tryz.prog 115 #[.string ⟨l.toArray⟩] W fun e w' => e = .returned (.bool f) ∧ Below W.heap.size W w')) : Calls Tryz.prog 86 #[.int .i64 5, .string ⟨l.toArray⟩] w fun e w' => e = .returned (.bool f) ∧ Below w.heap.size w w' := by
  go_enter Tryz.func86, Tryz.ntmps86
  go_wp2_with fail
  refine (h19.out _ (Below.refl _ _)).mono ?_
  rintro e w1 ⟨rfl, hb⟩
  have B1 := hiD (hb)
  clear hb
  go_wp2_with fail
  go_ret
  exact ⟨rfl, B1.out⟩
theorem pfits_no (x : ByteArray) (k : Int) (h1 : ¬ k = 1) (h2 : ¬ k = 2) (h3 : ¬ k = 3) (h4 : ¬ k = 4) (h5 : ¬ k = 5) (w : World) : Calls Tryz.prog 86 #[.int .i64 k, .string x] w fun e w' => e = .returned (.bool false) ∧ Below w.heap.size w w' := by
  go_enter Tryz.func86, Tryz.ntmps86
  go_wp2_with fail
  go_ret
  exact ⟨rfl, Below.refl _ _⟩
theorem pfits_list (k : Int) (l : List UInt8) (w : World) (h : Env w) : Calls Tryz.prog 86 #[.int .i64 k, .string ⟨l.toArray⟩] w fun e w' => e = .returned (.bool (fitT k l)) ∧ Below w.heap.size w w' := by
  have hi : ∀ (B : Nat), B = 8 ∨ B = 16 ∨ B = 32 ∨ B = 64 → ∀ W, Below w.heap.size w W → Calls Tryz.prog 116 #[.string ⟨l.toArray⟩, .int .i64 (B : Int)] W (IntPost (intT B l) W) := fun B hB W hW => integer_any B hB ⟨l.toArray⟩ W (h.below hW)
  have hv : ∀ W, Below w.heap.size w W → Calls Tryz.prog 115 #[.string ⟨l.toArray⟩] W fun e w' => e = .returned (.bool (num l).isSome) ∧ Below W.heap.size W w' := fun W hW => by
    have h := valid_any ⟨l.toArray⟩ W (h.below hW).tab
    rw [num_is] at h
    exact h
  unfold fitT
  by_cases h1 : k = 1
  · subst h1
    simp only [if_true, Int.reduceEq, if_false]
    by_cases hl : l = []
    · subst hl; exact pfits1_nil _ _ w (hiD (hi 8 (by omega)))
    · have hl2 : l.isEmpty = false := by simpa using hl
      rw [hl2, Bool.false_or]
      exact pfits1_some l hl hl2 _ _ w (hiD (hi 8 (by omega)))
  by_cases h2 : k = 2
  · subst h2
    simp only [if_true, Int.reduceEq, if_false]
    by_cases hl : l = []
    · subst hl; exact pfits2_nil _ _ w (hiD (hi 16 (by omega)))
    · have hl2 : l.isEmpty = false := by simpa using hl
      rw [hl2, Bool.false_or]
      exact pfits2_some l hl hl2 _ _ w (hiD (hi 16 (by omega)))
  by_cases h3 : k = 3
  · subst h3
    simp only [if_true, Int.reduceEq, if_false]
    by_cases hl : l = []
    · subst hl; exact pfits3_nil _ _ w (hiD (hi 32 (by omega)))
    · have hl2 : l.isEmpty = false := by simpa using hl
      rw [hl2, Bool.false_or]
      exact pfits3_some l hl hl2 _ _ w (hiD (hi 32 (by omega)))
  by_cases h4 : k = 4
  · subst h4
    simp only [if_true, Int.reduceEq, if_false]
    by_cases hl : l = []
    · subst hl; exact pfits4_nil _ _ w (hiD (hi 64 (by omega)))
    · have hl2 : l.isEmpty = false := by simpa using hl
      rw [hl2, Bool.false_or]
      exact pfits4_some l hl hl2 _ _ w (hiD (hi 64 (by omega)))
  by_cases h5 : k = 5
  · subst h5
    simp only [if_true, Int.reduceEq, if_false]
    by_cases hl : l = []
    · subst hl; exact pfits5_nil w
    · have hl2 : l.isEmpty = false := by simpa using hl
      rw [hl2, Bool.false_or]
      exact pfits5_some l hl hl2 _ w (hiD hv)
  simp only [h1, h2, h3, h4, h5, if_false]
  exact pfits_no _ k h1 h2 h3 h4 h5 w
end Go.Proofs.YtigidchicloleaaGreatDoor
