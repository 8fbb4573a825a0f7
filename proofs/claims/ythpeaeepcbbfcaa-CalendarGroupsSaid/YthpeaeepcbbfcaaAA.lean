/- The law CalendarLosses. -/
import Derived.Test.YthpeaeepcbbfcaaY
import Derived.Laws.StructEq
namespace Go.Proofs.Ythpeaeepcbbfcaa
open Go.RowKit

set_option maxRecDepth 100000 in
set_option maxHeartbeats 3200000 in
theorem losses_no (c y m d : Int) (w : World) (h1 : Hid (∀ W, Calls Try.prog 34 #[.int .i64 3, .int .i64 c, .agg #[.int .i64 y, .int .i64 m, .int .i64 d]] W fun e w' => e = .returned (.tuple #[.agg #[.int .i64 0, .int .i64 0, .int .i64 0], .int .i64 0, .int .i64 20]) ∧ Below W.heap.size W w')) (h2 : Hid (∀ W, Calls Try.prog 34 #[.int .i64 c, .int .i64 4, .agg #[.int .i64 y, .int .i64 m, .int .i64 d]] W fun e w' => e = .returned (.tuple #[.agg #[.int .i64 0, .int .i64 0, .int .i64 0], .int .i64 0, .int .i64 20]) ∧ Below W.heap.size W w'))  : Calls Try.prog 13 #[.int .i64 c, .agg #[.int .i64 y, .int .i64 m, .int .i64 d]] w (LawPost w) := by
  have hs := Lib.hid sane_any
  have HB := Lib.hid (Below.refl w.heap.size w)
  have bd := Lib.hid (Bk.newAt w #[.int .i64 y, .int .i64 m, .int .i64 d] 28 (w.heap.size) (by simp))
  have HB := Lib.hid (kept_more (o := (.cells #[.int .i64 y, .int .i64 m, .int .i64 d] 28)) HB.out)
  go_enter Try.func13, Try.ntmps13
  go_wp2_with fail
  refine (h1.out _).mono ?_
  rintro e w2 ⟨rfl, hb⟩
  have bd := Lib.hid (bd.out.next hb)
  have HB := Lib.hid (bel_next HB.out hb)
  clear hb
  have bd := Lib.hid (bd.out.more (.cells #[.int .i64 0, .int .i64 0, .int .i64 0] 28))
  have b1 := Lib.hid (Bk.newAt w2 #[.int .i64 0, .int .i64 0, .int .i64 0] 28 (w2.heap.size) (by simp))
  have HB := Lib.hid (kept_more (o := (.cells #[.int .i64 0, .int .i64 0, .int .i64 0] 28)) HB.out)
  have bd_c0 := bd.out.cell 0
  have bd_c1 := bd.out.cell 1
  have bd_c2 := bd.out.cell 2
  have b1_c0 := b1.out.cell 0
  have b1_c1 := b1.out.cell 1
  have b1_c2 := b1.out.cell 2
  go_wp2_with fail
  refine (h2.out _).mono ?_
  rintro e w3 ⟨rfl, hb⟩
  have bd := Lib.hid (bd.out.next hb)
  have b1 := Lib.hid (b1.out.next hb)
  have HB := Lib.hid (bel_next HB.out hb)
  clear bd_c0 bd_c1 bd_c2 b1_c0 b1_c1 b1_c2
  clear hb
  have bd := Lib.hid (bd.out.more (.cells #[.int .i64 0, .int .i64 0, .int .i64 0] 28))
  have b1 := Lib.hid (b1.out.more (.cells #[.int .i64 0, .int .i64 0, .int .i64 0] 28))
  have b2 := Lib.hid (Bk.newAt w3 #[.int .i64 0, .int .i64 0, .int .i64 0] 28 (w3.heap.size) (by simp))
  have HB := Lib.hid (kept_more (o := (.cells #[.int .i64 0, .int .i64 0, .int .i64 0] 28)) HB.out)
  have bd_c0 := bd.out.cell 0
  have bd_c1 := bd.out.cell 1
  have bd_c2 := bd.out.cell 2
  have b2_c0 := b2.out.cell 0
  have b2_c1 := b2.out.cell 1
  have b2_c2 := b2.out.cell 2
  go_wp2_with fail
  refine (hs.out _).mono ?_
  rintro e w4 ⟨rfl, hb⟩
  have bd := Lib.hid (bd.out.next hb)
  have b1 := Lib.hid (b1.out.next hb)
  have b2 := Lib.hid (b2.out.next hb)
  have HB := Lib.hid (bel_next HB.out hb)
  clear bd_c0 bd_c1 bd_c2 b2_c0 b2_c1 b2_c2
  clear hb
  go_wp2_with fail
  go_ret
  exact ⟨rfl, HB.out⟩

set_option maxRecDepth 100000 in
set_option maxHeartbeats 3200000 in
theorem losses_bb (c y m d : Int) (w : World) (h1 : Hid (∀ W, Calls Try.prog 34 #[.int .i64 3, .int .i64 c, .agg #[.int .i64 y, .int .i64 m, .int .i64 d]] W fun e w' => e = .returned (.tuple #[.agg #[.int .i64 0, .int .i64 0, .int .i64 0], .int .i64 0, .int .i64 21]) ∧ Below W.heap.size W w')) (h2 : Hid (∀ W, Calls Try.prog 34 #[.int .i64 c, .int .i64 4, .agg #[.int .i64 y, .int .i64 m, .int .i64 d]] W fun e w' => e = .returned (.tuple #[.agg #[.int .i64 0, .int .i64 0, .int .i64 0], .int .i64 0, .int .i64 21]) ∧ Below W.heap.size W w'))  : Calls Try.prog 13 #[.int .i64 c, .agg #[.int .i64 y, .int .i64 m, .int .i64 d]] w (LawPost w) := by
  have hs := Lib.hid sane_any
  have HB := Lib.hid (Below.refl w.heap.size w)
  have bd := Lib.hid (Bk.newAt w #[.int .i64 y, .int .i64 m, .int .i64 d] 28 (w.heap.size) (by simp))
  have HB := Lib.hid (kept_more (o := (.cells #[.int .i64 y, .int .i64 m, .int .i64 d] 28)) HB.out)
  go_enter Try.func13, Try.ntmps13
  go_wp2_with fail
  refine (h1.out _).mono ?_
  rintro e w2 ⟨rfl, hb⟩
  have bd := Lib.hid (bd.out.next hb)
  have HB := Lib.hid (bel_next HB.out hb)
  clear hb
  have bd := Lib.hid (bd.out.more (.cells #[.int .i64 0, .int .i64 0, .int .i64 0] 28))
  have b1 := Lib.hid (Bk.newAt w2 #[.int .i64 0, .int .i64 0, .int .i64 0] 28 (w2.heap.size) (by simp))
  have HB := Lib.hid (kept_more (o := (.cells #[.int .i64 0, .int .i64 0, .int .i64 0] 28)) HB.out)
  have bd_c0 := bd.out.cell 0
  have bd_c1 := bd.out.cell 1
  have bd_c2 := bd.out.cell 2
  have b1_c0 := b1.out.cell 0
  have b1_c1 := b1.out.cell 1
  have b1_c2 := b1.out.cell 2
  go_wp2_with fail
  refine (h2.out _).mono ?_
  rintro e w3 ⟨rfl, hb⟩
  have bd := Lib.hid (bd.out.next hb)
  have b1 := Lib.hid (b1.out.next hb)
  have HB := Lib.hid (bel_next HB.out hb)
  clear bd_c0 bd_c1 bd_c2 b1_c0 b1_c1 b1_c2
  clear hb
  have bd := Lib.hid (bd.out.more (.cells #[.int .i64 0, .int .i64 0, .int .i64 0] 28))
  have b1 := Lib.hid (b1.out.more (.cells #[.int .i64 0, .int .i64 0, .int .i64 0] 28))
  have b2 := Lib.hid (Bk.newAt w3 #[.int .i64 0, .int .i64 0, .int .i64 0] 28 (w3.heap.size) (by simp))
  have HB := Lib.hid (kept_more (o := (.cells #[.int .i64 0, .int .i64 0, .int .i64 0] 28)) HB.out)
  have bd_c0 := bd.out.cell 0
  have bd_c1 := bd.out.cell 1
  have bd_c2 := bd.out.cell 2
  have b2_c0 := b2.out.cell 0
  have b2_c1 := b2.out.cell 1
  have b2_c2 := b2.out.cell 2
  go_wp2_with fail
  refine (hs.out _).mono ?_
  rintro e w4 ⟨rfl, hb⟩
  have bd := Lib.hid (bd.out.next hb)
  have b1 := Lib.hid (b1.out.next hb)
  have b2 := Lib.hid (b2.out.next hb)
  have HB := Lib.hid (bel_next HB.out hb)
  clear bd_c0 bd_c1 bd_c2 b2_c0 b2_c1 b2_c2
  clear hb
  go_wp2_with fail
  go_ret
  exact ⟨rfl, HB.out⟩

set_option maxRecDepth 100000 in
set_option maxHeartbeats 3200000 in
theorem losses_bo (c y m d : Int) (w : World) (h1 : Hid (∀ W, Calls Try.prog 34 #[.int .i64 3, .int .i64 c, .agg #[.int .i64 y, .int .i64 m, .int .i64 d]] W fun e w' => e = .returned (.tuple #[.agg #[.int .i64 0, .int .i64 0, .int .i64 0], .int .i64 0, .int .i64 21]) ∧ Below W.heap.size W w')) (h2 : Hid (∀ W, Calls Try.prog 34 #[.int .i64 c, .int .i64 4, .agg #[.int .i64 y, .int .i64 m, .int .i64 d]] W fun e w' => e = .returned (.tuple #[.agg #[.int .i64 y, .int .i64 m, .int .i64 d], .int .i64 0, .int .i64 0]) ∧ Below W.heap.size W w')) (t5 : (c != 5) = true) : Calls Try.prog 13 #[.int .i64 c, .agg #[.int .i64 y, .int .i64 m, .int .i64 d]] w (LawPost w) := by
  have hs := Lib.hid sane_any
  have HB := Lib.hid (Below.refl w.heap.size w)
  have bd := Lib.hid (Bk.newAt w #[.int .i64 y, .int .i64 m, .int .i64 d] 28 (w.heap.size) (by simp))
  have HB := Lib.hid (kept_more (o := (.cells #[.int .i64 y, .int .i64 m, .int .i64 d] 28)) HB.out)
  go_enter Try.func13, Try.ntmps13
  go_wp2_with fail
  refine (h1.out _).mono ?_
  rintro e w2 ⟨rfl, hb⟩
  have bd := Lib.hid (bd.out.next hb)
  have HB := Lib.hid (bel_next HB.out hb)
  clear hb
  have bd := Lib.hid (bd.out.more (.cells #[.int .i64 0, .int .i64 0, .int .i64 0] 28))
  have b1 := Lib.hid (Bk.newAt w2 #[.int .i64 0, .int .i64 0, .int .i64 0] 28 (w2.heap.size) (by simp))
  have HB := Lib.hid (kept_more (o := (.cells #[.int .i64 0, .int .i64 0, .int .i64 0] 28)) HB.out)
  have bd_c0 := bd.out.cell 0
  have bd_c1 := bd.out.cell 1
  have bd_c2 := bd.out.cell 2
  have b1_c0 := b1.out.cell 0
  have b1_c1 := b1.out.cell 1
  have b1_c2 := b1.out.cell 2
  go_wp2_with fail
  refine (h2.out _).mono ?_
  rintro e w3 ⟨rfl, hb⟩
  have bd := Lib.hid (bd.out.next hb)
  have b1 := Lib.hid (b1.out.next hb)
  have HB := Lib.hid (bel_next HB.out hb)
  clear bd_c0 bd_c1 bd_c2 b1_c0 b1_c1 b1_c2
  clear hb
  have bd := Lib.hid (bd.out.more (.cells #[.int .i64 y, .int .i64 m, .int .i64 d] 28))
  have b1 := Lib.hid (b1.out.more (.cells #[.int .i64 y, .int .i64 m, .int .i64 d] 28))
  have b2 := Lib.hid (Bk.newAt w3 #[.int .i64 y, .int .i64 m, .int .i64 d] 28 (w3.heap.size) (by simp))
  have HB := Lib.hid (kept_more (o := (.cells #[.int .i64 y, .int .i64 m, .int .i64 d] 28)) HB.out)
  have bd_c0 := bd.out.cell 0
  have bd_c1 := bd.out.cell 1
  have bd_c2 := bd.out.cell 2
  have b2_c0 := b2.out.cell 0
  have b2_c1 := b2.out.cell 1
  have b2_c2 := b2.out.cell 2
  go_wp2_with fail
  refine (hs.out _).mono ?_
  rintro e w4 ⟨rfl, hb⟩
  have bd := Lib.hid (bd.out.next hb)
  have b1 := Lib.hid (b1.out.next hb)
  have b2 := Lib.hid (b2.out.next hb)
  have HB := Lib.hid (bel_next HB.out hb)
  clear bd_c0 bd_c1 bd_c2 b2_c0 b2_c1 b2_c2
  clear hb
  go_wp2_with fail
  go_ret
  exact ⟨rfl, HB.out⟩

set_option maxRecDepth 100000 in
set_option maxHeartbeats 3200000 in
theorem losses_ob (c y m d : Int) (w : World) (h1 : Hid (∀ W, Calls Try.prog 34 #[.int .i64 3, .int .i64 c, .agg #[.int .i64 y, .int .i64 m, .int .i64 d]] W fun e w' => e = .returned (.tuple #[.agg #[.int .i64 y, .int .i64 m, .int .i64 d], .int .i64 0, .int .i64 0]) ∧ Below W.heap.size W w')) (h2 : Hid (∀ W, Calls Try.prog 34 #[.int .i64 c, .int .i64 4, .agg #[.int .i64 y, .int .i64 m, .int .i64 d]] W fun e w' => e = .returned (.tuple #[.agg #[.int .i64 0, .int .i64 0, .int .i64 0], .int .i64 0, .int .i64 21]) ∧ Below W.heap.size W w')) (t5 : (c != 5) = true) : Calls Try.prog 13 #[.int .i64 c, .agg #[.int .i64 y, .int .i64 m, .int .i64 d]] w (LawPost w) := by
  have hs := Lib.hid sane_any
  have HB := Lib.hid (Below.refl w.heap.size w)
  have bd := Lib.hid (Bk.newAt w #[.int .i64 y, .int .i64 m, .int .i64 d] 28 (w.heap.size) (by simp))
  have HB := Lib.hid (kept_more (o := (.cells #[.int .i64 y, .int .i64 m, .int .i64 d] 28)) HB.out)
  go_enter Try.func13, Try.ntmps13
  go_wp2_with fail
  refine (h1.out _).mono ?_
  rintro e w2 ⟨rfl, hb⟩
  have bd := Lib.hid (bd.out.next hb)
  have HB := Lib.hid (bel_next HB.out hb)
  clear hb
  have bd := Lib.hid (bd.out.more (.cells #[.int .i64 y, .int .i64 m, .int .i64 d] 28))
  have b1 := Lib.hid (Bk.newAt w2 #[.int .i64 y, .int .i64 m, .int .i64 d] 28 (w2.heap.size) (by simp))
  have HB := Lib.hid (kept_more (o := (.cells #[.int .i64 y, .int .i64 m, .int .i64 d] 28)) HB.out)
  have bd_c0 := bd.out.cell 0
  have bd_c1 := bd.out.cell 1
  have bd_c2 := bd.out.cell 2
  have b1_c0 := b1.out.cell 0
  have b1_c1 := b1.out.cell 1
  have b1_c2 := b1.out.cell 2
  go_wp2_with fail
  refine (h2.out _).mono ?_
  rintro e w3 ⟨rfl, hb⟩
  have bd := Lib.hid (bd.out.next hb)
  have b1 := Lib.hid (b1.out.next hb)
  have HB := Lib.hid (bel_next HB.out hb)
  clear bd_c0 bd_c1 bd_c2 b1_c0 b1_c1 b1_c2
  clear hb
  have bd := Lib.hid (bd.out.more (.cells #[.int .i64 0, .int .i64 0, .int .i64 0] 28))
  have b1 := Lib.hid (b1.out.more (.cells #[.int .i64 0, .int .i64 0, .int .i64 0] 28))
  have b2 := Lib.hid (Bk.newAt w3 #[.int .i64 0, .int .i64 0, .int .i64 0] 28 (w3.heap.size) (by simp))
  have HB := Lib.hid (kept_more (o := (.cells #[.int .i64 0, .int .i64 0, .int .i64 0] 28)) HB.out)
  have bd_c0 := bd.out.cell 0
  have bd_c1 := bd.out.cell 1
  have bd_c2 := bd.out.cell 2
  have b2_c0 := b2.out.cell 0
  have b2_c1 := b2.out.cell 1
  have b2_c2 := b2.out.cell 2
  go_wp2_with fail
  refine (hs.out _).mono ?_
  rintro e w4 ⟨rfl, hb⟩
  have bd := Lib.hid (bd.out.next hb)
  have b1 := Lib.hid (b1.out.next hb)
  have b2 := Lib.hid (b2.out.next hb)
  have HB := Lib.hid (bel_next HB.out hb)
  clear bd_c0 bd_c1 bd_c2 b2_c0 b2_c1 b2_c2
  clear hb
  go_wp2_with fail
  go_ret
  exact ⟨rfl, HB.out⟩

set_option maxRecDepth 100000 in
set_option maxHeartbeats 3200000 in
theorem losses_oo (c y m d : Int) (w : World) (h1 : Hid (∀ W, Calls Try.prog 34 #[.int .i64 3, .int .i64 c, .agg #[.int .i64 y, .int .i64 m, .int .i64 d]] W fun e w' => e = .returned (.tuple #[.agg #[.int .i64 y, .int .i64 m, .int .i64 d], .int .i64 0, .int .i64 0]) ∧ Below W.heap.size W w')) (h2 : Hid (∀ W, Calls Try.prog 34 #[.int .i64 c, .int .i64 4, .agg #[.int .i64 y, .int .i64 m, .int .i64 d]] W fun e w' => e = .returned (.tuple #[.agg #[.int .i64 y, .int .i64 m, .int .i64 d], .int .i64 0, .int .i64 0]) ∧ Below W.heap.size W w')) (t5 : (c != 5) = true) : Calls Try.prog 13 #[.int .i64 c, .agg #[.int .i64 y, .int .i64 m, .int .i64 d]] w (LawPost w) := by
  have hs := Lib.hid sane_any
  have HB := Lib.hid (Below.refl w.heap.size w)
  have bd := Lib.hid (Bk.newAt w #[.int .i64 y, .int .i64 m, .int .i64 d] 28 (w.heap.size) (by simp))
  have HB := Lib.hid (kept_more (o := (.cells #[.int .i64 y, .int .i64 m, .int .i64 d] 28)) HB.out)
  go_enter Try.func13, Try.ntmps13
  go_wp2_with fail
  refine (h1.out _).mono ?_
  rintro e w2 ⟨rfl, hb⟩
  have bd := Lib.hid (bd.out.next hb)
  have HB := Lib.hid (bel_next HB.out hb)
  clear hb
  have bd := Lib.hid (bd.out.more (.cells #[.int .i64 y, .int .i64 m, .int .i64 d] 28))
  have b1 := Lib.hid (Bk.newAt w2 #[.int .i64 y, .int .i64 m, .int .i64 d] 28 (w2.heap.size) (by simp))
  have HB := Lib.hid (kept_more (o := (.cells #[.int .i64 y, .int .i64 m, .int .i64 d] 28)) HB.out)
  have bd_c0 := bd.out.cell 0
  have bd_c1 := bd.out.cell 1
  have bd_c2 := bd.out.cell 2
  have b1_c0 := b1.out.cell 0
  have b1_c1 := b1.out.cell 1
  have b1_c2 := b1.out.cell 2
  go_wp2_with fail
  refine (h2.out _).mono ?_
  rintro e w3 ⟨rfl, hb⟩
  have bd := Lib.hid (bd.out.next hb)
  have b1 := Lib.hid (b1.out.next hb)
  have HB := Lib.hid (bel_next HB.out hb)
  clear bd_c0 bd_c1 bd_c2 b1_c0 b1_c1 b1_c2
  clear hb
  have bd := Lib.hid (bd.out.more (.cells #[.int .i64 y, .int .i64 m, .int .i64 d] 28))
  have b1 := Lib.hid (b1.out.more (.cells #[.int .i64 y, .int .i64 m, .int .i64 d] 28))
  have b2 := Lib.hid (Bk.newAt w3 #[.int .i64 y, .int .i64 m, .int .i64 d] 28 (w3.heap.size) (by simp))
  have HB := Lib.hid (kept_more (o := (.cells #[.int .i64 y, .int .i64 m, .int .i64 d] 28)) HB.out)
  have bd_c0 := bd.out.cell 0
  have bd_c1 := bd.out.cell 1
  have bd_c2 := bd.out.cell 2
  have b2_c0 := b2.out.cell 0
  have b2_c1 := b2.out.cell 1
  have b2_c2 := b2.out.cell 2
  go_wp2_with fail
  refine (hs.out _).mono ?_
  rintro e w4 ⟨rfl, hb⟩
  have bd := Lib.hid (bd.out.next hb)
  have b1 := Lib.hid (b1.out.next hb)
  have b2 := Lib.hid (b2.out.next hb)
  have HB := Lib.hid (bel_next HB.out hb)
  clear bd_c0 bd_c1 bd_c2 b2_c0 b2_c1 b2_c2
  clear hb
  go_wp2_with fail
  go_ret
  exact ⟨rfl, HB.out⟩

set_option maxRecDepth 100000 in
set_option maxHeartbeats 3200000 in
theorem losses5_0_0 (y m d u0 u1 u2 v0 v1 v2 l1 l2 : Int) (w : World) (h1 : Hid (∀ W, Calls Try.prog 34 #[.int .i64 3, .int .i64 5, .agg #[.int .i64 y, .int .i64 m, .int .i64 d]] W fun e w' => e = .returned (.tuple #[.agg #[.int .i64 u0, .int .i64 u1, .int .i64 u2], .int .i64 l1, .int .i64 0]) ∧ Below W.heap.size W w')) (h2 : Hid (∀ W, Calls Try.prog 34 #[.int .i64 5, .int .i64 4, .agg #[.int .i64 y, .int .i64 m, .int .i64 d]] W fun e w' => e = .returned (.tuple #[.agg #[.int .i64 v0, .int .i64 v1, .int .i64 v2], .int .i64 l2, .int .i64 0]) ∧ Below W.heap.size W w'))  : Calls Try.prog 13 #[.int .i64 5, .agg #[.int .i64 y, .int .i64 m, .int .i64 d]] w (LawPost w) := by
  have hs := Lib.hid sane_any
  have HB := Lib.hid (Below.refl w.heap.size w)
  have bd := Lib.hid (Bk.newAt w #[.int .i64 y, .int .i64 m, .int .i64 d] 28 (w.heap.size) (by simp))
  have HB := Lib.hid (kept_more (o := (.cells #[.int .i64 y, .int .i64 m, .int .i64 d] 28)) HB.out)
  go_enter Try.func13, Try.ntmps13
  go_wp2_with fail
  refine (h1.out _).mono ?_
  rintro e w2 ⟨rfl, hb⟩
  have bd := Lib.hid (bd.out.next hb)
  have HB := Lib.hid (bel_next HB.out hb)
  clear hb
  have bd := Lib.hid (bd.out.more (.cells #[.int .i64 u0, .int .i64 u1, .int .i64 u2] 28))
  have b1 := Lib.hid (Bk.newAt w2 #[.int .i64 u0, .int .i64 u1, .int .i64 u2] 28 (w2.heap.size) (by simp))
  have HB := Lib.hid (kept_more (o := (.cells #[.int .i64 u0, .int .i64 u1, .int .i64 u2] 28)) HB.out)
  have bd_c0 := bd.out.cell 0
  have bd_c1 := bd.out.cell 1
  have bd_c2 := bd.out.cell 2
  have b1_c0 := b1.out.cell 0
  have b1_c1 := b1.out.cell 1
  have b1_c2 := b1.out.cell 2
  go_wp2_with fail
  refine (h2.out _).mono ?_
  rintro e w3 ⟨rfl, hb⟩
  have bd := Lib.hid (bd.out.next hb)
  have b1 := Lib.hid (b1.out.next hb)
  have HB := Lib.hid (bel_next HB.out hb)
  clear bd_c0 bd_c1 bd_c2 b1_c0 b1_c1 b1_c2
  clear hb
  have bd := Lib.hid (bd.out.more (.cells #[.int .i64 v0, .int .i64 v1, .int .i64 v2] 28))
  have b1 := Lib.hid (b1.out.more (.cells #[.int .i64 v0, .int .i64 v1, .int .i64 v2] 28))
  have b2 := Lib.hid (Bk.newAt w3 #[.int .i64 v0, .int .i64 v1, .int .i64 v2] 28 (w3.heap.size) (by simp))
  have HB := Lib.hid (kept_more (o := (.cells #[.int .i64 v0, .int .i64 v1, .int .i64 v2] 28)) HB.out)
  have bd_c0 := bd.out.cell 0
  have bd_c1 := bd.out.cell 1
  have bd_c2 := bd.out.cell 2
  have b2_c0 := b2.out.cell 0
  have b2_c1 := b2.out.cell 1
  have b2_c2 := b2.out.cell 2
  go_wp2_with fail
  refine (hs.out _).mono ?_
  rintro e w4 ⟨rfl, hb⟩
  have bd := Lib.hid (bd.out.next hb)
  have b1 := Lib.hid (b1.out.next hb)
  have b2 := Lib.hid (b2.out.next hb)
  have HB := Lib.hid (bel_next HB.out hb)
  clear bd_c0 bd_c1 bd_c2 b2_c0 b2_c1 b2_c2
  clear hb
  go_wp2_with fail
  go_ret
  exact ⟨rfl, HB.out⟩

set_option maxRecDepth 100000 in
set_option maxHeartbeats 3200000 in
theorem losses5_0_21 (y m d u0 u1 u2 v0 v1 v2 l1 l2 : Int) (w : World) (h1 : Hid (∀ W, Calls Try.prog 34 #[.int .i64 3, .int .i64 5, .agg #[.int .i64 y, .int .i64 m, .int .i64 d]] W fun e w' => e = .returned (.tuple #[.agg #[.int .i64 u0, .int .i64 u1, .int .i64 u2], .int .i64 l1, .int .i64 0]) ∧ Below W.heap.size W w')) (h2 : Hid (∀ W, Calls Try.prog 34 #[.int .i64 5, .int .i64 4, .agg #[.int .i64 y, .int .i64 m, .int .i64 d]] W fun e w' => e = .returned (.tuple #[.agg #[.int .i64 v0, .int .i64 v1, .int .i64 v2], .int .i64 l2, .int .i64 21]) ∧ Below W.heap.size W w'))  : Calls Try.prog 13 #[.int .i64 5, .agg #[.int .i64 y, .int .i64 m, .int .i64 d]] w (LawPost w) := by
  have hs := Lib.hid sane_any
  have HB := Lib.hid (Below.refl w.heap.size w)
  have bd := Lib.hid (Bk.newAt w #[.int .i64 y, .int .i64 m, .int .i64 d] 28 (w.heap.size) (by simp))
  have HB := Lib.hid (kept_more (o := (.cells #[.int .i64 y, .int .i64 m, .int .i64 d] 28)) HB.out)
  go_enter Try.func13, Try.ntmps13
  go_wp2_with fail
  refine (h1.out _).mono ?_
  rintro e w2 ⟨rfl, hb⟩
  have bd := Lib.hid (bd.out.next hb)
  have HB := Lib.hid (bel_next HB.out hb)
  clear hb
  have bd := Lib.hid (bd.out.more (.cells #[.int .i64 u0, .int .i64 u1, .int .i64 u2] 28))
  have b1 := Lib.hid (Bk.newAt w2 #[.int .i64 u0, .int .i64 u1, .int .i64 u2] 28 (w2.heap.size) (by simp))
  have HB := Lib.hid (kept_more (o := (.cells #[.int .i64 u0, .int .i64 u1, .int .i64 u2] 28)) HB.out)
  have bd_c0 := bd.out.cell 0
  have bd_c1 := bd.out.cell 1
  have bd_c2 := bd.out.cell 2
  have b1_c0 := b1.out.cell 0
  have b1_c1 := b1.out.cell 1
  have b1_c2 := b1.out.cell 2
  go_wp2_with fail
  refine (h2.out _).mono ?_
  rintro e w3 ⟨rfl, hb⟩
  have bd := Lib.hid (bd.out.next hb)
  have b1 := Lib.hid (b1.out.next hb)
  have HB := Lib.hid (bel_next HB.out hb)
  clear bd_c0 bd_c1 bd_c2 b1_c0 b1_c1 b1_c2
  clear hb
  have bd := Lib.hid (bd.out.more (.cells #[.int .i64 v0, .int .i64 v1, .int .i64 v2] 28))
  have b1 := Lib.hid (b1.out.more (.cells #[.int .i64 v0, .int .i64 v1, .int .i64 v2] 28))
  have b2 := Lib.hid (Bk.newAt w3 #[.int .i64 v0, .int .i64 v1, .int .i64 v2] 28 (w3.heap.size) (by simp))
  have HB := Lib.hid (kept_more (o := (.cells #[.int .i64 v0, .int .i64 v1, .int .i64 v2] 28)) HB.out)
  have bd_c0 := bd.out.cell 0
  have bd_c1 := bd.out.cell 1
  have bd_c2 := bd.out.cell 2
  have b2_c0 := b2.out.cell 0
  have b2_c1 := b2.out.cell 1
  have b2_c2 := b2.out.cell 2
  go_wp2_with fail
  refine (hs.out _).mono ?_
  rintro e w4 ⟨rfl, hb⟩
  have bd := Lib.hid (bd.out.next hb)
  have b1 := Lib.hid (b1.out.next hb)
  have b2 := Lib.hid (b2.out.next hb)
  have HB := Lib.hid (bel_next HB.out hb)
  clear bd_c0 bd_c1 bd_c2 b2_c0 b2_c1 b2_c2
  clear hb
  go_wp2_with fail
  go_ret
  exact ⟨rfl, HB.out⟩

set_option maxRecDepth 100000 in
set_option maxHeartbeats 3200000 in
theorem losses5_21_0 (y m d u0 u1 u2 v0 v1 v2 l1 l2 : Int) (w : World) (h1 : Hid (∀ W, Calls Try.prog 34 #[.int .i64 3, .int .i64 5, .agg #[.int .i64 y, .int .i64 m, .int .i64 d]] W fun e w' => e = .returned (.tuple #[.agg #[.int .i64 u0, .int .i64 u1, .int .i64 u2], .int .i64 l1, .int .i64 21]) ∧ Below W.heap.size W w')) (h2 : Hid (∀ W, Calls Try.prog 34 #[.int .i64 5, .int .i64 4, .agg #[.int .i64 y, .int .i64 m, .int .i64 d]] W fun e w' => e = .returned (.tuple #[.agg #[.int .i64 v0, .int .i64 v1, .int .i64 v2], .int .i64 l2, .int .i64 0]) ∧ Below W.heap.size W w'))  : Calls Try.prog 13 #[.int .i64 5, .agg #[.int .i64 y, .int .i64 m, .int .i64 d]] w (LawPost w) := by
  have hs := Lib.hid sane_any
  have HB := Lib.hid (Below.refl w.heap.size w)
  have bd := Lib.hid (Bk.newAt w #[.int .i64 y, .int .i64 m, .int .i64 d] 28 (w.heap.size) (by simp))
  have HB := Lib.hid (kept_more (o := (.cells #[.int .i64 y, .int .i64 m, .int .i64 d] 28)) HB.out)
  go_enter Try.func13, Try.ntmps13
  go_wp2_with fail
  refine (h1.out _).mono ?_
  rintro e w2 ⟨rfl, hb⟩
  have bd := Lib.hid (bd.out.next hb)
  have HB := Lib.hid (bel_next HB.out hb)
  clear hb
  have bd := Lib.hid (bd.out.more (.cells #[.int .i64 u0, .int .i64 u1, .int .i64 u2] 28))
  have b1 := Lib.hid (Bk.newAt w2 #[.int .i64 u0, .int .i64 u1, .int .i64 u2] 28 (w2.heap.size) (by simp))
  have HB := Lib.hid (kept_more (o := (.cells #[.int .i64 u0, .int .i64 u1, .int .i64 u2] 28)) HB.out)
  have bd_c0 := bd.out.cell 0
  have bd_c1 := bd.out.cell 1
  have bd_c2 := bd.out.cell 2
  have b1_c0 := b1.out.cell 0
  have b1_c1 := b1.out.cell 1
  have b1_c2 := b1.out.cell 2
  go_wp2_with fail
  refine (h2.out _).mono ?_
  rintro e w3 ⟨rfl, hb⟩
  have bd := Lib.hid (bd.out.next hb)
  have b1 := Lib.hid (b1.out.next hb)
  have HB := Lib.hid (bel_next HB.out hb)
  clear bd_c0 bd_c1 bd_c2 b1_c0 b1_c1 b1_c2
  clear hb
  have bd := Lib.hid (bd.out.more (.cells #[.int .i64 v0, .int .i64 v1, .int .i64 v2] 28))
  have b1 := Lib.hid (b1.out.more (.cells #[.int .i64 v0, .int .i64 v1, .int .i64 v2] 28))
  have b2 := Lib.hid (Bk.newAt w3 #[.int .i64 v0, .int .i64 v1, .int .i64 v2] 28 (w3.heap.size) (by simp))
  have HB := Lib.hid (kept_more (o := (.cells #[.int .i64 v0, .int .i64 v1, .int .i64 v2] 28)) HB.out)
  have bd_c0 := bd.out.cell 0
  have bd_c1 := bd.out.cell 1
  have bd_c2 := bd.out.cell 2
  have b2_c0 := b2.out.cell 0
  have b2_c1 := b2.out.cell 1
  have b2_c2 := b2.out.cell 2
  go_wp2_with fail
  refine (hs.out _).mono ?_
  rintro e w4 ⟨rfl, hb⟩
  have bd := Lib.hid (bd.out.next hb)
  have b1 := Lib.hid (b1.out.next hb)
  have b2 := Lib.hid (b2.out.next hb)
  have HB := Lib.hid (bel_next HB.out hb)
  clear bd_c0 bd_c1 bd_c2 b2_c0 b2_c1 b2_c2
  clear hb
  go_wp2_with fail
  go_ret
  exact ⟨rfl, HB.out⟩

set_option maxRecDepth 100000 in
set_option maxHeartbeats 3200000 in
theorem losses5_21_21 (y m d u0 u1 u2 v0 v1 v2 l1 l2 : Int) (w : World) (h1 : Hid (∀ W, Calls Try.prog 34 #[.int .i64 3, .int .i64 5, .agg #[.int .i64 y, .int .i64 m, .int .i64 d]] W fun e w' => e = .returned (.tuple #[.agg #[.int .i64 u0, .int .i64 u1, .int .i64 u2], .int .i64 l1, .int .i64 21]) ∧ Below W.heap.size W w')) (h2 : Hid (∀ W, Calls Try.prog 34 #[.int .i64 5, .int .i64 4, .agg #[.int .i64 y, .int .i64 m, .int .i64 d]] W fun e w' => e = .returned (.tuple #[.agg #[.int .i64 v0, .int .i64 v1, .int .i64 v2], .int .i64 l2, .int .i64 21]) ∧ Below W.heap.size W w'))  : Calls Try.prog 13 #[.int .i64 5, .agg #[.int .i64 y, .int .i64 m, .int .i64 d]] w (LawPost w) := by
  have hs := Lib.hid sane_any
  have HB := Lib.hid (Below.refl w.heap.size w)
  have bd := Lib.hid (Bk.newAt w #[.int .i64 y, .int .i64 m, .int .i64 d] 28 (w.heap.size) (by simp))
  have HB := Lib.hid (kept_more (o := (.cells #[.int .i64 y, .int .i64 m, .int .i64 d] 28)) HB.out)
  go_enter Try.func13, Try.ntmps13
  go_wp2_with fail
  refine (h1.out _).mono ?_
  rintro e w2 ⟨rfl, hb⟩
  have bd := Lib.hid (bd.out.next hb)
  have HB := Lib.hid (bel_next HB.out hb)
  clear hb
  have bd := Lib.hid (bd.out.more (.cells #[.int .i64 u0, .int .i64 u1, .int .i64 u2] 28))
  have b1 := Lib.hid (Bk.newAt w2 #[.int .i64 u0, .int .i64 u1, .int .i64 u2] 28 (w2.heap.size) (by simp))
  have HB := Lib.hid (kept_more (o := (.cells #[.int .i64 u0, .int .i64 u1, .int .i64 u2] 28)) HB.out)
  have bd_c0 := bd.out.cell 0
  have bd_c1 := bd.out.cell 1
  have bd_c2 := bd.out.cell 2
  have b1_c0 := b1.out.cell 0
  have b1_c1 := b1.out.cell 1
  have b1_c2 := b1.out.cell 2
  go_wp2_with fail
  refine (h2.out _).mono ?_
  rintro e w3 ⟨rfl, hb⟩
  have bd := Lib.hid (bd.out.next hb)
  have b1 := Lib.hid (b1.out.next hb)
  have HB := Lib.hid (bel_next HB.out hb)
  clear bd_c0 bd_c1 bd_c2 b1_c0 b1_c1 b1_c2
  clear hb
  have bd := Lib.hid (bd.out.more (.cells #[.int .i64 v0, .int .i64 v1, .int .i64 v2] 28))
  have b1 := Lib.hid (b1.out.more (.cells #[.int .i64 v0, .int .i64 v1, .int .i64 v2] 28))
  have b2 := Lib.hid (Bk.newAt w3 #[.int .i64 v0, .int .i64 v1, .int .i64 v2] 28 (w3.heap.size) (by simp))
  have HB := Lib.hid (kept_more (o := (.cells #[.int .i64 v0, .int .i64 v1, .int .i64 v2] 28)) HB.out)
  have bd_c0 := bd.out.cell 0
  have bd_c1 := bd.out.cell 1
  have bd_c2 := bd.out.cell 2
  have b2_c0 := b2.out.cell 0
  have b2_c1 := b2.out.cell 1
  have b2_c2 := b2.out.cell 2
  go_wp2_with fail
  refine (hs.out _).mono ?_
  rintro e w4 ⟨rfl, hb⟩
  have bd := Lib.hid (bd.out.next hb)
  have b1 := Lib.hid (b1.out.next hb)
  have b2 := Lib.hid (b2.out.next hb)
  have HB := Lib.hid (bel_next HB.out hb)
  clear bd_c0 bd_c1 bd_c2 b2_c0 b2_c1 b2_c2
  clear hb
  go_wp2_with fail
  go_ret
  exact ⟨rfl, HB.out⟩

theorem map_cases (a b y m d : Int) (ha : isCal a) (hb : isCal b) : (ok a y m d = false ∧ Hid (∀ W, Calls Try.prog 34 #[.int .i64 a, .int .i64 b, .agg #[.int .i64 y, .int .i64 m, .int .i64 d]] W fun e w' => e = .returned (.tuple #[.agg #[.int .i64 0, .int .i64 0, .int .i64 0], .int .i64 0, .int .i64 21]) ∧ Below W.heap.size W w')) ∨ (ok a y m d = true ∧ ok b y m d = false ∧ Hid (∀ W, Calls Try.prog 34 #[.int .i64 a, .int .i64 b, .agg #[.int .i64 y, .int .i64 m, .int .i64 d]] W fun e w' => e = .returned (.tuple #[.agg #[.int .i64 0, .int .i64 0, .int .i64 0], .int .i64 1, .int .i64 0]) ∧ Below W.heap.size W w')) ∨ (ok a y m d = true ∧ ok b y m d = true ∧ Hid (∀ W, Calls Try.prog 34 #[.int .i64 a, .int .i64 b, .agg #[.int .i64 y, .int .i64 m, .int .i64 d]] W fun e w' => e = .returned (.tuple #[.agg #[.int .i64 y, .int .i64 m, .int .i64 d], .int .i64 0, .int .i64 0]) ∧ Below W.heap.size W w')) := by
  cases h1 : ok a y m d with
  | false => exact .inl ⟨rfl, Lib.hid (fun W => map_bad a b y m d W ha hb (Lib.hid h1))⟩
  | true =>
    cases h2 : ok b y m d with
    | false => exact .inr (.inl ⟨rfl, rfl, Lib.hid (fun W => map_miss a b y m d W ha hb (Lib.hid h1) (Lib.hid h2))⟩)
    | true => exact .inr (.inr ⟨rfl, rfl, Lib.hid (fun W => map_ok a b y m d W ha hb (Lib.hid h1) (Lib.hid h2))⟩)
theorem dm_least (c y m : Int) (h5 : c ≠ 5) : dm 3 y m ≤ dm c y m := by
  have a := lpn_01 c y
  have e : lpn 3 y = 0 := by simp [lpn, lp]
  unfold dm; rw [e, if_neg (by omega), if_neg h5]
  split
  · omega
  · omega
theorem dm_most (c y m : Int) (h5 : c ≠ 5) : dm c y m ≤ dm 4 y m := by
  have a := lpn_01 c y
  have e : lpn 4 y = 1 := by simp [lpn, lp]
  unfold dm; rw [e, if_neg h5, if_neg (show ¬ (4 : Int) = 5 by omega)]
  split
  · omega
  · omega
theorem ok_least {c y m d : Int} (h5 : c ≠ 5) (h : ok 3 y m d = true) : ok c y m d = true := by
  have h' := (ok_of h).1 rfl
  have := dm_least c y m h5
  exact decide_eq_true ⟨h'.1, h'.2.1, h'.2.2.1, h'.2.2.2.1, h'.2.2.2.2.1, by have := h'.2.2.2.2.2; omega⟩
theorem ok_most {c y m d : Int} (h5 : c ≠ 5) (h : ok c y m d = true) : ok 4 y m d = true := by
  have h' := (ok_of h).1 rfl
  have := dm_most c y m h5
  exact decide_eq_true ⟨h'.1, h'.2.1, h'.2.2.1, h'.2.2.2.1, h'.2.2.2.2.1, by have := h'.2.2.2.2.2; omega⟩

theorem losses_any (c y m d : Int) (w : World) : Calls Try.prog 13 #[.int .i64 c, .agg #[.int .i64 y, .int .i64 m, .int .i64 d]] w (LawPost w) := by
  by_cases hc : isCal c
  · have h3 : isCal 3 := by decide
    have h4 : isCal 4 := by decide
    by_cases h5 : c = 5
    · subst h5
      rcases map_cases 3 5 y m d h3 hc with ⟨-, p⟩ | ⟨-, -, p⟩ | ⟨-, -, p⟩ <;> rcases map_cases 5 4 y m d hc h4 with ⟨-, q⟩ | ⟨-, -, q⟩ | ⟨-, -, q⟩
      · exact losses5_21_21 y m d _ _ _ _ _ _ _ _ w p q
      · exact losses5_21_0 y m d _ _ _ _ _ _ _ _ w p q
      · exact losses5_21_0 y m d _ _ _ _ _ _ _ _ w p q
      · exact losses5_0_21 y m d _ _ _ _ _ _ _ _ w p q
      · exact losses5_0_0 y m d _ _ _ _ _ _ _ _ w p q
      · exact losses5_0_0 y m d _ _ _ _ _ _ _ _ w p q
      · exact losses5_0_21 y m d _ _ _ _ _ _ _ _ w p q
      · exact losses5_0_0 y m d _ _ _ _ _ _ _ _ w p q
      · exact losses5_0_0 y m d _ _ _ _ _ _ _ _ w p q
    · have t5 : (c != 5) = true := by simpa using h5
      rcases map_cases 3 c y m d h3 hc with ⟨-, p⟩ | ⟨u, v, -⟩ | ⟨-, -, p⟩
      · rcases map_cases c 4 y m d hc h4 with ⟨-, q⟩ | ⟨u, v, -⟩ | ⟨-, -, q⟩
        · exact losses_bb c y m d w p q
        · rw [ok_most h5 u] at v; cases v
        · exact losses_bo c y m d w p q t5
      · rw [ok_least h5 u] at v; cases v
      · rcases map_cases c 4 y m d hc h4 with ⟨-, q⟩ | ⟨u, v, -⟩ | ⟨-, -, q⟩
        · exact losses_ob c y m d w p q t5
        · rw [ok_most h5 u] at v; cases v
        · exact losses_oo c y m d w p q t5
  · exact losses_no c y m d w (Lib.hid (fun W => map_yn 3 c y m d W (by decide) hc)) (Lib.hid (fun W => map_ny c 4 y m d W hc (by decide)))
end Go.Proofs.Ythpeaeepcbbfcaa
