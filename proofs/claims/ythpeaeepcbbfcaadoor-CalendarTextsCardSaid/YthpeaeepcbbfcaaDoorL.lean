/- Leap, Days, Length, Valid, Number, DateOf. -/
import Derived.Test.YthpeaeepcbbfcaaDoorK
namespace Go.Proofs.YthpeaeepcbbfcaaDoor
open Go.RowKit

instance (c : Int) : Decidable (isCal c) := by unfold isCal; infer_instance
theorem kept_box {w w2 : World} {cs : Array Value} {T : TypeId} (hb : Below (w.alloc (.cells cs T)).heap.size (w.alloc (.cells cs T)) w2) : w2.heap[w.heap.size]? = some (.cells cs T (0, 0)) ∧ Below w.heap.size w w2 ∧ w.heap.size + 1 ≤ w2.heap.size :=
  ⟨(hb.block _ (by simp)).trans (heap_new _ _), (below_alloc _ _).trans (hb.mono (by simp)), by have := hb.size; simpa using this⟩
theorem kept_alloc {w w2 w3 : World} {o : Obj} (h : Below w.heap.size w w2) (hb : Below (w2.alloc o).heap.size (w2.alloc o) w3) : Below w.heap.size w w3 :=
  (h.trans ((below_alloc w2 o).mono h.size)).trans (hb.mono (by have := h.size; simp; omega))
theorem kept_more {w w2 : World} {o : Obj} (h : Below w.heap.size w w2) : Below w.heap.size w (w2.alloc o) := h.trans ((below_alloc w2 o).mono h.size)

def isYr (y : Int) : Prop := -9999 ≤ y ∧ y ≤ 9999
instance (y : Int) : Decidable (isYr y) := by unfold isYr; infer_instance
def leapV (c y : Int) : Bool := if isCal c ∧ isYr y then lp c y else false
def yearE (c y : Int) : Int := if isCal c then if isYr y then 0 else 21 else 20
def isYM (y m : Int) : Prop := isYr y ∧ 1 ≤ m ∧ m ≤ 12
instance (y m : Int) : Decidable (isYM y m) := by unfold isYM; infer_instance
def daysV (c y m : Int) : Int := if isCal c ∧ isYM y m then dm c y m else 0
def daysE (c y m : Int) : Int := if isCal c then if isYM y m then 0 else 21 else 20
def lenV (c y : Int) : Int := if isCal c ∧ isYr y then len c y else 0
def validV (c y m d : Int) : Bool := decide (isCal c) && ok c y m d
def numV (c y m d : Int) : Int := if isCal c ∧ Ok c y m d then num c y m d else 0
def numE (c y m d : Int) : Int := if isCal c then if Ok c y m d then 0 else 21 else 20

theorem ret2 {a a' : Value} {b b' : Int} (h : a = a') (k : b = b') : Ending.returned (.tuple #[a, .int .i64 b]) = .returned (.tuple #[a', .int .i64 b']) := by rw [h, k]
theorem ok_of {c y m d : Int} {u : Bool} (h : ok c y m d = u) : (u = true → Ok c y m d) ∧ (u = false → ¬ Ok c y m d) := by
  subst h; unfold ok; simp

set_option maxRecDepth 100000 in
set_option maxHeartbeats 800000 in
theorem number_nocal (c : Int) (y m d : Int) (w : World) (h : ¬ isCal c) : Calls Tryd.prog 17 #[.int .i64 c, .agg #[.int .i64 y, .int .i64 m, .int .i64 d]] w fun e w' => e = .returned (.tuple #[.int .i64 0, .int .i64 20]) ∧ Below w.heap.size w w' := by
  have hr := Lib.hid (fun W => rulesOf_no c W h)
  clear h
  go_enter Tryd.func17, Tryd.ntmps17
  go_wp2_with fail
  refine (hr.out _).mono ?_
  rintro e w2 ⟨rfl, hb2⟩
  obtain ⟨-, Hb, hz⟩ := kept_box hb2
  have HB := Lib.hid Hb
  clear hb2 Hb
  go_wp2_with fail
  go_ret2
  exact ⟨rfl, kept_more HB.out⟩
end Go.Proofs.YthpeaeepcbbfcaaDoor
