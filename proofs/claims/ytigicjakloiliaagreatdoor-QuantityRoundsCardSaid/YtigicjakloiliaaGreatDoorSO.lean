/- The law QuantityRounds where a text is no number. -/
import Derived.Test.YtigicjakloiliaaGreatDoorSc
set_option maxHeartbeats 3200000
set_option maxRecDepth 100000
namespace Go.Proofs.YtigicjakloiliaaGreatDoor
open Go.RowKit Big
open Go.Lib
theorem rounds_out0 (x y r f : ByteArray) (a b c : Rat) (f1 : Bool) (f2 : Bool) (w : World)
    (h36 : Hid (∀ W, Below w.heap.size w W → Calls Tryz.prog 36 #[.string x, .string y] W fun e w' => e = .returned (.string r) ∧ Below W.heap.size W w')) (h37 : Hid (∀ W, Below w.heap.size w W → Calls Tryz.prog 37 #[.string x] W fun e w' => e = .returned (.string f) ∧ Below W.heap.size W w')) (h38 : Hid (∀ W, Below w.heap.size w W → Calls Tryz.prog 38 #[.string x] W fun e w' => e = .returned (.string f) ∧ Below W.heap.size W w')) (h39 : Hid (∀ W, Below w.heap.size w W → Calls Tryz.prog 39 #[.string x, .string y] W fun e w' => e = .returned (.string r) ∧ Below W.heap.size W w'))
    (hx : Hid (∀ W, Below w.heap.size w W → Calls Tryz.prog 40 #[.string x] W (FlagPost a false W))) (hy : Hid (∀ W, Below w.heap.size w W → Calls Tryz.prog 40 #[.string y] W (FlagPost b f1 W))) (hr : Hid (∀ W, Below w.heap.size w W → Calls Tryz.prog 40 #[.string r] W (FlagPost c f2 W)))
    (hw : Hid (∀ W, Below w.heap.size w W → Calls Tryz.prog 23 #[] W fun e w' => e = .returned (.bool true) ∧ Below W.heap.size W w')) : Calls Tryz.prog 6 #[.string x, .string y] w fun e w' => e = .returned (.bool true) ∧ Below w.heap.size w w' := by
  go_enter Tryz.func6, Tryz.ntmps6
  go_wp2_with fail
  refine (h36.out _ (Below.refl _ _)).mono ?_
  rintro e w1 ⟨rfl, hb⟩
  have B1 := Lib.hid (hb)
  clear hb
  go_wp2_with fail
  refine (h37.out _ B1.out).mono ?_
  rintro e w2 ⟨rfl, hb⟩
  have B2 := Lib.hid (Below.trans B1.out (hb.mono B1.out.size))
  clear hb
  go_wp2_with fail
  refine (h38.out _ B2.out).mono ?_
  rintro e w3 ⟨rfl, hb⟩
  have B3 := Lib.hid (Below.trans B2.out (hb.mono B2.out.size))
  clear hb
  go_wp2_with fail
  refine (h39.out _ B3.out).mono ?_
  rintro e w4 ⟨rfl, hb⟩
  have B4 := Lib.hid (Below.trans B3.out (hb.mono B3.out.size))
  clear hb
  go_wp2_with fail
  refine (hx.out _ B4.out).mono ?_
  rintro e w5 ⟨g5, p5, n5, c5, q5, m5, d5, rfl, hb, -⟩
  have hb' := Below.trans B4.out (hb.mono B4.out.size)
  have B5 := Lib.hid (hb'.trans ((below_alloc9 w5 (.cells #[.bool g5, .slice p5 n5 c5, .slice q5 m5 d5] 38)).mono hb'.size))
  clear hb hb'
  go_wp2_with fail
  refine (hy.out _ B5.out).mono ?_
  rintro e w6 ⟨g6, p6, n6, c6, q6, m6, d6, rfl, hb, -⟩
  have hb' := Below.trans B5.out (hb.mono B5.out.size)
  have B6 := Lib.hid (hb'.trans ((below_alloc9 w6 (.cells #[.bool g6, .slice p6 n6 c6, .slice q6 m6 d6] 38)).mono hb'.size))
  clear hb hb'
  go_wp2_with fail
  refine (hr.out _ B6.out).mono ?_
  rintro e w7 ⟨g7, p7, n7, c7, q7, m7, d7, rfl, hb, -⟩
  have hb' := Below.trans B6.out (hb.mono B6.out.size)
  have B7 := Lib.hid (hb'.trans ((below_alloc9 w7 (.cells #[.bool g7, .slice p7 n7 c7, .slice q7 m7 d7] 38)).mono hb'.size))
  clear hb hb'
  go_wp2_with fail
  refine (hw.out _ B7.out).mono ?_
  rintro e w8 ⟨rfl, hb⟩
  have B8 := Lib.hid (Below.trans B7.out (hb.mono B7.out.size))
  clear hb
  go_wp2_with fail
  go_ret
  exact ⟨rfl, B8.out⟩
theorem rounds_out1 (x y r f : ByteArray) (a b c : Rat) (f2 : Bool) (w : World)
    (h36 : Hid (∀ W, Below w.heap.size w W → Calls Tryz.prog 36 #[.string x, .string y] W fun e w' => e = .returned (.string r) ∧ Below W.heap.size W w')) (h37 : Hid (∀ W, Below w.heap.size w W → Calls Tryz.prog 37 #[.string x] W fun e w' => e = .returned (.string f) ∧ Below W.heap.size W w')) (h38 : Hid (∀ W, Below w.heap.size w W → Calls Tryz.prog 38 #[.string x] W fun e w' => e = .returned (.string f) ∧ Below W.heap.size W w')) (h39 : Hid (∀ W, Below w.heap.size w W → Calls Tryz.prog 39 #[.string x, .string y] W fun e w' => e = .returned (.string r) ∧ Below W.heap.size W w'))
    (hx : Hid (∀ W, Below w.heap.size w W → Calls Tryz.prog 40 #[.string x] W (FlagPost a true W))) (hy : Hid (∀ W, Below w.heap.size w W → Calls Tryz.prog 40 #[.string y] W (FlagPost b false W))) (hr : Hid (∀ W, Below w.heap.size w W → Calls Tryz.prog 40 #[.string r] W (FlagPost c f2 W)))
    (hw : Hid (∀ W, Below w.heap.size w W → Calls Tryz.prog 23 #[] W fun e w' => e = .returned (.bool true) ∧ Below W.heap.size W w')) : Calls Tryz.prog 6 #[.string x, .string y] w fun e w' => e = .returned (.bool true) ∧ Below w.heap.size w w' := by
  go_enter Tryz.func6, Tryz.ntmps6
  go_wp2_with fail
  refine (h36.out _ (Below.refl _ _)).mono ?_
  rintro e w1 ⟨rfl, hb⟩
  have B1 := Lib.hid (hb)
  clear hb
  go_wp2_with fail
  refine (h37.out _ B1.out).mono ?_
  rintro e w2 ⟨rfl, hb⟩
  have B2 := Lib.hid (Below.trans B1.out (hb.mono B1.out.size))
  clear hb
  go_wp2_with fail
  refine (h38.out _ B2.out).mono ?_
  rintro e w3 ⟨rfl, hb⟩
  have B3 := Lib.hid (Below.trans B2.out (hb.mono B2.out.size))
  clear hb
  go_wp2_with fail
  refine (h39.out _ B3.out).mono ?_
  rintro e w4 ⟨rfl, hb⟩
  have B4 := Lib.hid (Below.trans B3.out (hb.mono B3.out.size))
  clear hb
  go_wp2_with fail
  refine (hx.out _ B4.out).mono ?_
  rintro e w5 ⟨g5, p5, n5, c5, q5, m5, d5, rfl, hb, -⟩
  have hb' := Below.trans B4.out (hb.mono B4.out.size)
  have B5 := Lib.hid (hb'.trans ((below_alloc9 w5 (.cells #[.bool g5, .slice p5 n5 c5, .slice q5 m5 d5] 38)).mono hb'.size))
  clear hb hb'
  go_wp2_with fail
  refine (hy.out _ B5.out).mono ?_
  rintro e w6 ⟨g6, p6, n6, c6, q6, m6, d6, rfl, hb, -⟩
  have hb' := Below.trans B5.out (hb.mono B5.out.size)
  have B6 := Lib.hid (hb'.trans ((below_alloc9 w6 (.cells #[.bool g6, .slice p6 n6 c6, .slice q6 m6 d6] 38)).mono hb'.size))
  clear hb hb'
  go_wp2_with fail
  refine (hr.out _ B6.out).mono ?_
  rintro e w7 ⟨g7, p7, n7, c7, q7, m7, d7, rfl, hb, -⟩
  have hb' := Below.trans B6.out (hb.mono B6.out.size)
  have B7 := Lib.hid (hb'.trans ((below_alloc9 w7 (.cells #[.bool g7, .slice p7 n7 c7, .slice q7 m7 d7] 38)).mono hb'.size))
  clear hb hb'
  go_wp2_with fail
  refine (hw.out _ B7.out).mono ?_
  rintro e w8 ⟨rfl, hb⟩
  have B8 := Lib.hid (Below.trans B7.out (hb.mono B7.out.size))
  clear hb
  go_wp2_with fail
  go_ret
  exact ⟨rfl, B8.out⟩
theorem rounds_out2 (x y r f : ByteArray) (a b c : Rat) (w : World)
    (h36 : Hid (∀ W, Below w.heap.size w W → Calls Tryz.prog 36 #[.string x, .string y] W fun e w' => e = .returned (.string r) ∧ Below W.heap.size W w')) (h37 : Hid (∀ W, Below w.heap.size w W → Calls Tryz.prog 37 #[.string x] W fun e w' => e = .returned (.string f) ∧ Below W.heap.size W w')) (h38 : Hid (∀ W, Below w.heap.size w W → Calls Tryz.prog 38 #[.string x] W fun e w' => e = .returned (.string f) ∧ Below W.heap.size W w')) (h39 : Hid (∀ W, Below w.heap.size w W → Calls Tryz.prog 39 #[.string x, .string y] W fun e w' => e = .returned (.string r) ∧ Below W.heap.size W w'))
    (hx : Hid (∀ W, Below w.heap.size w W → Calls Tryz.prog 40 #[.string x] W (FlagPost a true W))) (hy : Hid (∀ W, Below w.heap.size w W → Calls Tryz.prog 40 #[.string y] W (FlagPost b true W))) (hr : Hid (∀ W, Below w.heap.size w W → Calls Tryz.prog 40 #[.string r] W (FlagPost c false W)))
    (hw : Hid (∀ W, Below w.heap.size w W → Calls Tryz.prog 23 #[] W fun e w' => e = .returned (.bool true) ∧ Below W.heap.size W w')) : Calls Tryz.prog 6 #[.string x, .string y] w fun e w' => e = .returned (.bool true) ∧ Below w.heap.size w w' := by
  go_enter Tryz.func6, Tryz.ntmps6
  go_wp2_with fail
  refine (h36.out _ (Below.refl _ _)).mono ?_
  rintro e w1 ⟨rfl, hb⟩
  have B1 := Lib.hid (hb)
  clear hb
  go_wp2_with fail
  refine (h37.out _ B1.out).mono ?_
  rintro e w2 ⟨rfl, hb⟩
  have B2 := Lib.hid (Below.trans B1.out (hb.mono B1.out.size))
  clear hb
  go_wp2_with fail
  refine (h38.out _ B2.out).mono ?_
  rintro e w3 ⟨rfl, hb⟩
  have B3 := Lib.hid (Below.trans B2.out (hb.mono B2.out.size))
  clear hb
  go_wp2_with fail
  refine (h39.out _ B3.out).mono ?_
  rintro e w4 ⟨rfl, hb⟩
  have B4 := Lib.hid (Below.trans B3.out (hb.mono B3.out.size))
  clear hb
  go_wp2_with fail
  refine (hx.out _ B4.out).mono ?_
  rintro e w5 ⟨g5, p5, n5, c5, q5, m5, d5, rfl, hb, -⟩
  have hb' := Below.trans B4.out (hb.mono B4.out.size)
  have B5 := Lib.hid (hb'.trans ((below_alloc9 w5 (.cells #[.bool g5, .slice p5 n5 c5, .slice q5 m5 d5] 38)).mono hb'.size))
  clear hb hb'
  go_wp2_with fail
  refine (hy.out _ B5.out).mono ?_
  rintro e w6 ⟨g6, p6, n6, c6, q6, m6, d6, rfl, hb, -⟩
  have hb' := Below.trans B5.out (hb.mono B5.out.size)
  have B6 := Lib.hid (hb'.trans ((below_alloc9 w6 (.cells #[.bool g6, .slice p6 n6 c6, .slice q6 m6 d6] 38)).mono hb'.size))
  clear hb hb'
  go_wp2_with fail
  refine (hr.out _ B6.out).mono ?_
  rintro e w7 ⟨g7, p7, n7, c7, q7, m7, d7, rfl, hb, -⟩
  have hb' := Below.trans B6.out (hb.mono B6.out.size)
  have B7 := Lib.hid (hb'.trans ((below_alloc9 w7 (.cells #[.bool g7, .slice p7 n7 c7, .slice q7 m7 d7] 38)).mono hb'.size))
  clear hb hb'
  go_wp2_with fail
  refine (hw.out _ B7.out).mono ?_
  rintro e w8 ⟨rfl, hb⟩
  have B8 := Lib.hid (Below.trans B7.out (hb.mono B7.out.size))
  clear hb
  go_wp2_with fail
  go_ret
  exact ⟨rfl, B8.out⟩
end Go.Proofs.YtigicjakloiliaaGreatDoor
