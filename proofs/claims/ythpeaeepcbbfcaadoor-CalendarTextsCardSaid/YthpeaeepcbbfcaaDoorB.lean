/- The rules of a calendar: leap, start, days. -/
import Derived.Test.YthpeaeepcbbfcaaDoorA
import Derived.IntWalk
namespace Go.Proofs.YthpeaeepcbbfcaaDoor
open Go.RowKit

set_option maxHeartbeats 400000 in
theorem greg_any (y : Int) (w : World) (h0 : -20000 ≤ y) (h1 : y ≤ 20000) : Calls Tryd.prog 20 #[.int .i64 y] w fun e w' => e = .returned (.int .i64 (lps 1 y)) ∧ w = w' := by
  have b4 : -20000 ≤ mul 4 y ∧ mul 4 y ≤ 20000 := by unfold mul; omega
  have b100 : -20000 ≤ mul 100 y ∧ mul 100 y ≤ 20000 := by unfold mul; omega
  have b400 : -20000 ≤ mul 400 y ∧ mul 400 y ≤ 20000 := by unfold mul; omega
  obtain ⟨c1, c2⟩ := b4
  obtain ⟨c3, c4⟩ := b100
  obtain ⟨c5, c6⟩ := b400
  go_enter Tryd.func20, Tryd.ntmps20
  go_wp2_with fail
  refine (multiples_any 4 y _ (by omega) h0 h1).mono ?_
  rintro e w' ⟨rfl, rfl⟩
  go_wp2_with fail
  refine (multiples_any 100 y _ (by omega) h0 h1).mono ?_
  rintro e w' ⟨rfl, rfl⟩
  go_wp2_with fail
  refine (multiples_any 400 y _ (by omega) h0 h1).mono ?_
  rintro e w' ⟨rfl, rfl⟩
  go_wp2_with fail
  go_ret
  exact ⟨rfl, rfl⟩
theorem jul_any (y : Int) (w : World) (h0 : -20000 ≤ y) (h1 : y ≤ 20000) : Calls Tryd.prog 22 #[.int .i64 y] w fun e w' => e = .returned (.int .i64 (lps 2 y)) ∧ w = w' := by
  go_enter Tryd.func22, Tryd.ntmps22
  go_wp2_with fail
  refine (multiples_any 4 y _ (by omega) h0 h1).mono ?_
  rintro e w' ⟨rfl, rfl⟩
  go_wp2_with fail
  go_ret
  exact ⟨rfl, rfl⟩
theorem all_any (y : Int) (w : World) : Calls Tryd.prog 23 #[.int .i64 y] w fun e w' => e = .returned (.int .i64 (lps 4 y)) ∧ w = w' := by
  go_enter Tryd.func23, Tryd.ntmps23
  go_wp2_with fail
  go_ret
  exact ⟨rfl, rfl⟩

/-- A function that counts the leap years of calendar c. -/
def Counts (c : Int) (f : FuncId) : Prop := (∀ args W, (callFunc f args).run Tryd.prog W = .ok (.enter f args) W) ∧ ∀ (y : Int) (w : World), -20000 ≤ y → y ≤ 20000 → Calls Tryd.prog f #[.int .i64 y] w fun e w' => e = .returned (.int .i64 (lps c y)) ∧ w' = w

theorem flip {f : FuncId} {a : Array Value} {w : World} {v : Value} (h : Calls Tryd.prog f a w fun e w' => e = .returned v ∧ w = w') : Calls Tryd.prog f a w fun e w' => e = .returned v ∧ w' = w := h.mono fun _ _ h => ⟨h.1, h.2.symm⟩
theorem counts1 : Counts 1 20 := ⟨fun _ _ => by kernel_rfl, fun y w h0 h1 => flip (greg_any y w h0 h1)⟩
theorem counts2 : Counts 2 22 := ⟨fun _ _ => by kernel_rfl, fun y w h0 h1 => flip (jul_any y w h0 h1)⟩
theorem counts3 : Counts 3 19 := ⟨fun _ _ => by kernel_rfl, fun y w _ _ => flip (none_any y w)⟩
theorem counts4 : Counts 4 23 := ⟨fun _ _ => by kernel_rfl, fun y w _ _ => flip (all_any y w)⟩
theorem counts5 : Counts 5 19 := ⟨fun _ _ => by kernel_rfl, fun y w _ _ => flip (none_any y w)⟩

theorem quiet_add_same {P : Program} {f : FuncId} {args : Array Value} {w : World} {a n : Nat} {v : Value}
    (h : Calls P f args (w.drewN (a + n)) fun e w' => e = .returned v ∧ w' = w.drewN (a + n)) :
    Calls P f args (w.drewN (a + n)) fun e w'' => e = .returned v ∧ ∃ m, w'' = w.drewN (a + m) :=
  h.mono fun _ _ ⟨he, hm⟩ => ⟨he, n, hm⟩
theorem below_drewN {B : Nat} {a w : World} (h : Below B a w) (n : Nat) : Below B a (w.drewN n) := ⟨h.os, h.tape, h.output, h.size, h.block⟩
theorem leap_eq (c y : Int) : decide (lps c y < lps c (y + 1)) = lp c y := by
  rw [lps_succ]; unfold lpn
  cases lp c y <;> simp <;> omega

set_option maxRecDepth 100000 in
set_option maxHeartbeats 800000 in
theorem leap_gen (m0 m1 m2 m3 m4 m5 m6 m7 m8 m9 m10 m11 : Int) (f : FuncId) (c y : Int) (w : World) (hc : Hid (Counts c f)) (h0 : -10000 ≤ y) (h1 : y ≤ 10000) :
    Calls Tryd.prog 35 #[.agg #[.int .i64 m0, .int .i64 m1, .int .i64 m2, .int .i64 m3, .int .i64 m4, .int .i64 m5, .int .i64 m6, .int .i64 m7, .int .i64 m8, .int .i64 m9, .int .i64 m10, .int .i64 m11, .func (.func f) #[] #[]], .int .i64 y] w fun e w' => e = .returned (.bool (lp c y)) ∧ Below w.heap.size w w' := by
  have hent := hc.out.1
  have a1 := Lib.hid (hc.out.2 (y + 1))
  have a2 := Lib.hid (hc.out.2 y)
  have b1 := lps_bd c y
  have b2 := lps_bd c (y + 1)
  have b3 : -20000 ≤ lps c y ∧ lps c y ≤ 20000 := by omega
  have b4 : -20000 ≤ lps c (y + 1) ∧ lps c (y + 1) ≤ 20000 := by omega
  clear b1 b2
  obtain ⟨c1, c2⟩ := b3
  obtain ⟨c3, c4⟩ := b4
  have H := Lib.hid (leap_eq c y)
  go_enter Tryd.func35, Tryd.ntmps35
  go_wp2_with fail
  have s1 : IntKind.i64.wrap (y + 1) = y + 1 := IntWalk.i64_in _ (by omega)
  go_quiet (exact Calls.quiet_of_same (hc.out.2 _ _ (by omega) (by omega)))
  go_wp2_with fail
  go_ret
  exact ⟨ret_bool H.out, below_drewN ((Below.refl _ _).alloc (Nat.le_refl _) _) _⟩
end Go.Proofs.YthpeaeepcbbfcaaDoor
