/- The document's read of a unit, ValidUnit, Plain. -/
import Derived.Test.YtfjnipkpfbkegaaGreatDoorUA
import Derived.Test.YtfjnipkpfbkegaaGreatDoorSB
import Derived.Test.YtfjnipkpfbkegaaGreatDoorPart11
import Derived.Test.YtfjnipkpfbkegaaGreatDoorPart19
import Derived.Test.YtfjnipkpfbkegaaGreatDoorXTA
namespace Go.Proofs.YtfjnipkpfbkegaaGreatDoor
open Go.RowKit Big
open Go.Lib
theorem sgn_gt (q : Rat) : decide (0 < sgnQ q) = decide (0 < q) := by
  have h := @Rat.num_nonneg q
  unfold sgnQ
  by_cases h1 : q.num < 0
  · have h2 : ¬ 0 ≤ q := fun e => by have := h.2 e; omega
    rw [if_pos h1, decide_eq_false (show ¬ 0 < q from fun e => h2 (Rat.le_of_lt e))]; rfl
  · rw [if_neg h1]
    by_cases h2 : q.num = 0
    · have h3 := Rat.num_eq_zero.1 h2
      subst h3
      rw [if_pos h2]; rfl
    · have h3 : 0 ≤ q := h.1 (by omega)
      have h4 : q ≠ 0 := fun e => h2 (by rw [e]; rfl)
      rw [if_neg h2, decide_eq_true (show 0 < q by grind)]; rfl
theorem uread_is (f o : ByteArray) (p0 p1 p2 p3 p4 p5 p6 : Int) (w : World) : Calls Tryz.prog 28 #[.agg #[.string f, .string o, .int .i64 p0, .int .i64 p1, .int .i64 p2, .int .i64 p3, .int .i64 p4, .int .i64 p5, .int .i64 p6]] w
    (ScPost (valT f.data.toList) (valT o.data.toList) p0 p1 p2 p3 p4 p5 p6 (validT (tU f o p0 p1 p2 p3 p4 p5 p6)) w) := by
  refine uread_any f o p0 p1 p2 p3 p4 p5 p6 _ _ (num f.data.toList).isSome (num o.data.toList).isSome _ (sgnQ (valT f.data.toList)) w (hiD ?_) (hiD fun W _ => get_flag f _ rfl W) (hiD fun W _ => get_flag o _ rfl W) (hiD fun W u hu => sgn_any u _ W hu)
  rw [sgn_gt]
  unfold validT posT tU valT
  simp only
  cases num f.data.toList with
  | none => rfl
  | some q =>
    cases num o.data.toList with
    | none => simp
    | some r => simp [Bool.and_comm]
end Go.Proofs.YtfjnipkpfbkegaaGreatDoor
set_option maxHeartbeats 3200000
set_option maxRecDepth 100000
namespace Go.Proofs.YtfjnipkpfbkegaaGreatDoor
open Go.RowKit Big
open Go.Lib
theorem rvu_walk (f o : ByteArray) (p0 p1 p2 p3 p4 p5 p6 : Int) (qf qo : Rat) (ok : Bool) (w : World) (h : Hid (∀ W, Calls Tryz.prog 28 #[.agg #[.string f, .string o, .int .i64 p0, .int .i64 p1, .int .i64 p2, .int .i64 p3, .int .i64 p4, .int .i64 p5, .int .i64 p6]] W (ScPost qf qo p0 p1 p2 p3 p4 p5 p6 ok W))) : Calls Tryz.prog 11 #[.agg #[.string f, .string o, .int .i64 p0, .int .i64 p1, .int .i64 p2, .int .i64 p3, .int .i64 p4, .int .i64 p5, .int .i64 p6]] w fun e w' => e = .returned (.bool ok) ∧ Below w.heap.size w w' := by
  have hb0 := hiD (bea w (.cells #[.string f, .string o, .int .i64 p0, .int .i64 p1, .int .i64 p2, .int .i64 p3, .int .i64 p4, .int .i64 p5, .int .i64 p6] 24))
  go_enter Tryz.func11, Tryz.ntmps11
  go_wp2_with fail
  refine (h.out _).mono ?_
  rintro e w1 ⟨b1, x1, n1, c1, y1, m1, d1, b2, x2, n2, c2, y2, m2, d2, rfl, hb, -⟩
  have hb1 := hb0.out.trans (hb.mono hb0.out.size)
  have HB : Hid (∀ o1, Below w.heap.size w (w1.alloc o1)) := hiD fun o1 => hb1.alloc hb1.size o1
  clear hb hb1
  go_wp2_with fail
  go_ret
  exact ⟨rfl, HB.out _⟩
theorem rvu_any (f o : ByteArray) (p0 p1 p2 p3 p4 p5 p6 : Int) (w : World) : Calls Tryz.prog 11 #[.agg #[.string f, .string o, .int .i64 p0, .int .i64 p1, .int .i64 p2, .int .i64 p3, .int .i64 p4, .int .i64 p5, .int .i64 p6]] w fun e w' => e = .returned (.bool (validT (tU f o p0 p1 p2 p3 p4 p5 p6))) ∧ Below w.heap.size w w' :=
  rvu_walk f o p0 p1 p2 p3 p4 p5 p6 _ _ _ w (hiD fun W => uread_is f o p0 p1 p2 p3 p4 p5 p6 W)
end Go.Proofs.YtfjnipkpfbkegaaGreatDoor
set_option maxHeartbeats 3200000
set_option maxRecDepth 100000
namespace Go.Proofs.YtfjnipkpfbkegaaGreatDoor
open Go.RowKit Big
open Go.Lib
theorem rpl_no (f o : ByteArray) (p0 p1 p2 p3 p4 p5 p6 : Int) (w : World) (hp : Hid (∀ W, Below w.heap.size w W → Calls Tryz.prog 11 #[.agg #[.string f, .string o, .int .i64 p0, .int .i64 p1, .int .i64 p2, .int .i64 p3, .int .i64 p4, .int .i64 p5, .int .i64 p6]] W fun e w' => e = .returned (.bool false) ∧ Below W.heap.size W w')) : Calls Tryz.prog 26 #[.agg #[.string f, .string o, .int .i64 p0, .int .i64 p1, .int .i64 p2, .int .i64 p3, .int .i64 p4, .int .i64 p5, .int .i64 p6]] w fun e w' => e = .returned (.bool false) ∧ Below w.heap.size w w' := by
  have hb0 := hiD (bea w (.cells #[.string f, .string o, .int .i64 p0, .int .i64 p1, .int .i64 p2, .int .i64 p3, .int .i64 p4, .int .i64 p5, .int .i64 p6] 24))
  go_enter Tryz.func26, Tryz.ntmps26
  go_wp2_with fail
  refine (hp.out _ hb0.out).mono ?_
  rintro e w1 ⟨rfl, hb1⟩
  have Hb1 := hiD (hb0.out.trans (hb1.mono hb0.out.size))
  clear hb1
  go_wp2_with fail
  go_ret
  exact ⟨rfl, Hb1.out⟩
theorem rpl_yes (f o : ByteArray) (p0 p1 p2 p3 p4 p5 p6 : Int) (w : World) (hp : Hid (∀ W, Below w.heap.size w W → Calls Tryz.prog 11 #[.agg #[.string f, .string o, .int .i64 p0, .int .i64 p1, .int .i64 p2, .int .i64 p3, .int .i64 p4, .int .i64 p5, .int .i64 p6]] W fun e w' => e = .returned (.bool true) ∧ Below W.heap.size W w')) : Calls Tryz.prog 26 #[.agg #[.string f, .string o, .int .i64 p0, .int .i64 p1, .int .i64 p2, .int .i64 p3, .int .i64 p4, .int .i64 p5, .int .i64 p6]] w fun e w' => e = .returned (.bool (o.toList == [48])) ∧ Below w.heap.size w w' := by
  have hb0 := hiD (bea w (.cells #[.string f, .string o, .int .i64 p0, .int .i64 p1, .int .i64 p2, .int .i64 p3, .int .i64 p4, .int .i64 p5, .int .i64 p6] 24))
  have hx0 := hiD (heap_new w (.cells #[.string f, .string o, .int .i64 p0, .int .i64 p1, .int .i64 p2, .int .i64 p3, .int .i64 p4, .int .i64 p5, .int .i64 p6] 24))
  go_enter Tryz.func26, Tryz.ntmps26
  go_wp2_with fail
  refine (hp.out _ hb0.out).mono ?_
  rintro e w1 ⟨rfl, hb1⟩
  have Hb1 := hiD (hb0.out.trans (hb1.mono hb0.out.size))
  have hx1 := (hb1.block w.heap.size (by simp)).trans hx0.out
  have e1 := ceh hx1 1
  clear hb1 hx1
  go_wp2_with fail
  go_ret
  exact ⟨rfl, Hb1.out⟩
theorem rpl_any (f o : ByteArray) (p0 p1 p2 p3 p4 p5 p6 : Int) (w : World) : Calls Tryz.prog 26 #[.agg #[.string f, .string o, .int .i64 p0, .int .i64 p1, .int .i64 p2, .int .i64 p3, .int .i64 p4, .int .i64 p5, .int .i64 p6]] w fun e w' => e = .returned (.bool (plainT (tU f o p0 p1 p2 p3 p4 p5 p6))) ∧ Below w.heap.size w w' := by
  have hp := fun W (_ : Below w.heap.size w W) => rvu_any f o p0 p1 p2 p3 p4 p5 p6 W
  have he : ((tU f o p0 p1 p2 p3 p4 p5 p6).o == [48]) = (o.toList == [48]) := by rw [Lib.toList_data]; rfl
  unfold plainT
  rw [he]
  cases h1 : validT (tU f o p0 p1 p2 p3 p4 p5 p6) with
  | false =>
    rw [h1] at hp
    exact rpl_no f o p0 p1 p2 p3 p4 p5 p6 w (hiD hp)
  | true =>
    rw [h1] at hp
    exact rpl_yes f o p0 p1 p2 p3 p4 p5 p6 w (hiD hp)
end Go.Proofs.YtfjnipkpfbkegaaGreatDoor
