/- The law CalendarTexts: its walk. -/
import Derived.Test.YthpeaeepcbbfcaaDoorTG
import Derived.Laws.StructEq
namespace Go.Proofs.YthpeaeepcbbfcaaDoor
open Go.RowKit

/-- A call of a function that returns a text and an error. -/
def FmtIs (F : Nat) (w : World) (c y m d : Int) (t : ByteArray) (e : Int) : Prop := ∀ W, Below w.heap.size w W → Calls Tryd.prog F #[.int .i64 c, .agg #[.int .i64 y, .int .i64 m, .int .i64 d]] W fun z w' => z = .returned (.tuple #[.string t, .int .i64 e]) ∧ Below W.heap.size W w'
/-- A call of a function that returns a date and an error. -/
def ParIs (F : Nat) (w : World) (c : Int) (s : ByteArray) (y m d e : Int) : Prop := ∀ W, Below w.heap.size w W → Calls Tryd.prog F #[.int .i64 c, .string s] W fun z w' => z = .returned (.tuple #[.agg #[.int .i64 y, .int .i64 m, .int .i64 d], .int .i64 e]) ∧ Below W.heap.size W w'

set_option maxRecDepth 100000 in
set_option maxHeartbeats 3200000 in
theorem texts_nn (c y m d a b k e g : Int) (s t : ByteArray) (w : World) (h4 : Hid (FmtIs 4 w c y m d t e)) (h5 : Hid (FmtIs 5 w c y m d t e)) (h6 : Hid (ParIs 6 w c s a b k g)) (h7 : Hid (ParIs 7 w c s a b k g)) (te : (e == 0) = false) (tg : (g == 0) = false) : Calls Tryd.prog 3 #[.int .i64 c, .agg #[.int .i64 y, .int .i64 m, .int .i64 d], .string s] w (LawPost w) := by
  have hs := Lib.hid sane_any
  have HB := Lib.hid (Below.refl w.heap.size w)
  have bd := Lib.hid (Bk.newAt w #[.int .i64 y, .int .i64 m, .int .i64 d] 23 (w.heap.size) (by simp))
  have HB := Lib.hid (kept_more (o := (.cells #[.int .i64 y, .int .i64 m, .int .i64 d] 23)) HB.out)
  go_enter Tryd.func3, Tryd.ntmps3
  have bd_c0 := bd.out.cell 0
  have bd_c1 := bd.out.cell 1
  have bd_c2 := bd.out.cell 2
  go_wp2_with fail
  refine (h4.out _ HB.out).mono ?_
  rintro e w2 ⟨rfl, hb⟩
  have bd := Lib.hid (bd.out.next hb)
  have HB := Lib.hid (bel_next HB.out hb)
  clear bd_c0 bd_c1 bd_c2
  clear hb
  have bd_c0 := bd.out.cell 0
  have bd_c1 := bd.out.cell 1
  have bd_c2 := bd.out.cell 2
  go_wp2_with fail
  refine (h5.out _ HB.out).mono ?_
  rintro e w3 ⟨rfl, hb⟩
  have bd := Lib.hid (bd.out.next hb)
  have HB := Lib.hid (bel_next HB.out hb)
  clear bd_c0 bd_c1 bd_c2
  clear hb
  go_wp2_with fail
  refine (h6.out _ HB.out).mono ?_
  rintro e w4 ⟨rfl, hb⟩
  have bd := Lib.hid (bd.out.next hb)
  have HB := Lib.hid (bel_next HB.out hb)
  clear hb
  have bd := Lib.hid (bd.out.more (.cells #[.int .i64 a, .int .i64 b, .int .i64 k] 23))
  have bx := Lib.hid (Bk.newAt w4 #[.int .i64 a, .int .i64 b, .int .i64 k] 23 (w4.heap.size) (by simp))
  have HB := Lib.hid (kept_more (o := (.cells #[.int .i64 a, .int .i64 b, .int .i64 k] 23)) HB.out)
  go_wp2_with fail
  refine (h7.out _ HB.out).mono ?_
  rintro e w5 ⟨rfl, hb⟩
  have bd := Lib.hid (bd.out.next hb)
  have bx := Lib.hid (bx.out.next hb)
  have HB := Lib.hid (bel_next HB.out hb)
  clear hb
  have bd := Lib.hid (bd.out.more (.cells #[.int .i64 a, .int .i64 b, .int .i64 k] 23))
  have bx := Lib.hid (bx.out.more (.cells #[.int .i64 a, .int .i64 b, .int .i64 k] 23))
  have by0 := Lib.hid (Bk.newAt w5 #[.int .i64 a, .int .i64 b, .int .i64 k] 23 (w5.heap.size) (by simp))
  have HB := Lib.hid (kept_more (o := (.cells #[.int .i64 a, .int .i64 b, .int .i64 k] 23)) HB.out)
  have bx_c0 := bx.out.cell 0
  have bx_c1 := bx.out.cell 1
  have bx_c2 := bx.out.cell 2
  have by0_c0 := by0.out.cell 0
  have by0_c1 := by0.out.cell 1
  have by0_c2 := by0.out.cell 2
  go_wp2_with fail
  refine (hs.out _).mono ?_
  rintro e w6 ⟨rfl, hb⟩
  have bd := Lib.hid (bd.out.next hb)
  have bx := Lib.hid (bx.out.next hb)
  have by0 := Lib.hid (by0.out.next hb)
  have HB := Lib.hid (bel_next HB.out hb)
  clear bx_c0 bx_c1 bx_c2 by0_c0 by0_c1 by0_c2
  clear hb
  go_wp2_with fail
  go_ret
  exact ⟨rfl, HB.out⟩

set_option maxRecDepth 100000 in
set_option maxHeartbeats 3200000 in
theorem texts_yn (c y m d a b k e g : Int) (s t : ByteArray) (w : World) (h4 : Hid (FmtIs 4 w c y m d t e)) (h5 : Hid (FmtIs 5 w c y m d t e)) (h6 : Hid (ParIs 6 w c s a b k g)) (h7 : Hid (ParIs 7 w c s a b k g)) (te : (e == 0) = true) (tg : (g == 0) = false) (hp : Hid (ParIs 6 w c t y m d 0)) : Calls Tryd.prog 3 #[.int .i64 c, .agg #[.int .i64 y, .int .i64 m, .int .i64 d], .string s] w (LawPost w) := by
  have hs := Lib.hid sane_any
  have HB := Lib.hid (Below.refl w.heap.size w)
  have bd := Lib.hid (Bk.newAt w #[.int .i64 y, .int .i64 m, .int .i64 d] 23 (w.heap.size) (by simp))
  have HB := Lib.hid (kept_more (o := (.cells #[.int .i64 y, .int .i64 m, .int .i64 d] 23)) HB.out)
  go_enter Tryd.func3, Tryd.ntmps3
  have bd_c0 := bd.out.cell 0
  have bd_c1 := bd.out.cell 1
  have bd_c2 := bd.out.cell 2
  go_wp2_with fail
  refine (h4.out _ HB.out).mono ?_
  rintro e w2 ⟨rfl, hb⟩
  have bd := Lib.hid (bd.out.next hb)
  have HB := Lib.hid (bel_next HB.out hb)
  clear bd_c0 bd_c1 bd_c2
  clear hb
  have bd_c0 := bd.out.cell 0
  have bd_c1 := bd.out.cell 1
  have bd_c2 := bd.out.cell 2
  go_wp2_with fail
  refine (h5.out _ HB.out).mono ?_
  rintro e w3 ⟨rfl, hb⟩
  have bd := Lib.hid (bd.out.next hb)
  have HB := Lib.hid (bel_next HB.out hb)
  clear bd_c0 bd_c1 bd_c2
  clear hb
  go_wp2_with fail
  refine (h6.out _ HB.out).mono ?_
  rintro e w4 ⟨rfl, hb⟩
  have bd := Lib.hid (bd.out.next hb)
  have HB := Lib.hid (bel_next HB.out hb)
  clear hb
  have bd := Lib.hid (bd.out.more (.cells #[.int .i64 a, .int .i64 b, .int .i64 k] 23))
  have bx := Lib.hid (Bk.newAt w4 #[.int .i64 a, .int .i64 b, .int .i64 k] 23 (w4.heap.size) (by simp))
  have HB := Lib.hid (kept_more (o := (.cells #[.int .i64 a, .int .i64 b, .int .i64 k] 23)) HB.out)
  go_wp2_with fail
  refine (h7.out _ HB.out).mono ?_
  rintro e w5 ⟨rfl, hb⟩
  have bd := Lib.hid (bd.out.next hb)
  have bx := Lib.hid (bx.out.next hb)
  have HB := Lib.hid (bel_next HB.out hb)
  clear hb
  have bd := Lib.hid (bd.out.more (.cells #[.int .i64 a, .int .i64 b, .int .i64 k] 23))
  have bx := Lib.hid (bx.out.more (.cells #[.int .i64 a, .int .i64 b, .int .i64 k] 23))
  have by0 := Lib.hid (Bk.newAt w5 #[.int .i64 a, .int .i64 b, .int .i64 k] 23 (w5.heap.size) (by simp))
  have HB := Lib.hid (kept_more (o := (.cells #[.int .i64 a, .int .i64 b, .int .i64 k] 23)) HB.out)
  have bx_c0 := bx.out.cell 0
  have bx_c1 := bx.out.cell 1
  have bx_c2 := bx.out.cell 2
  have by0_c0 := by0.out.cell 0
  have by0_c1 := by0.out.cell 1
  have by0_c2 := by0.out.cell 2
  go_wp2_with fail
  refine (hs.out _).mono ?_
  rintro e w6 ⟨rfl, hb⟩
  have bd := Lib.hid (bd.out.next hb)
  have bx := Lib.hid (bx.out.next hb)
  have by0 := Lib.hid (by0.out.next hb)
  have HB := Lib.hid (bel_next HB.out hb)
  clear bx_c0 bx_c1 bx_c2 by0_c0 by0_c1 by0_c2
  clear hb
  go_wp2_with fail
  refine (hp.out _ HB.out).mono ?_
  rintro e w7 ⟨rfl, hb⟩
  have bd := Lib.hid (bd.out.next hb)
  have bx := Lib.hid (bx.out.next hb)
  have by0 := Lib.hid (by0.out.next hb)
  have HB := Lib.hid (bel_next HB.out hb)
  clear hb
  have bd := Lib.hid (bd.out.more (.cells #[.int .i64 y, .int .i64 m, .int .i64 d] 23))
  have bx := Lib.hid (bx.out.more (.cells #[.int .i64 y, .int .i64 m, .int .i64 d] 23))
  have by0 := Lib.hid (by0.out.more (.cells #[.int .i64 y, .int .i64 m, .int .i64 d] 23))
  have bb := Lib.hid (Bk.newAt w7 #[.int .i64 y, .int .i64 m, .int .i64 d] 23 (w7.heap.size) (by simp))
  have HB := Lib.hid (kept_more (o := (.cells #[.int .i64 y, .int .i64 m, .int .i64 d] 23)) HB.out)
  have bb_c0 := bb.out.cell 0
  have bb_c1 := bb.out.cell 1
  have bb_c2 := bb.out.cell 2
  have bd_c0 := bd.out.cell 0
  have bd_c1 := bd.out.cell 1
  have bd_c2 := bd.out.cell 2
  go_wp2_with fail
  go_ret
  exact ⟨rfl, HB.out⟩

set_option maxRecDepth 100000 in
set_option maxHeartbeats 3200000 in
theorem texts_ny (c y m d a b k e g : Int) (s t : ByteArray) (w : World) (h4 : Hid (FmtIs 4 w c y m d t e)) (h5 : Hid (FmtIs 5 w c y m d t e)) (h6 : Hid (ParIs 6 w c s a b k g)) (h7 : Hid (ParIs 7 w c s a b k g)) (te : (e == 0) = false) (tg : (g == 0) = true) (hf : Hid (FmtIs 4 w c a b k s 0)) : Calls Tryd.prog 3 #[.int .i64 c, .agg #[.int .i64 y, .int .i64 m, .int .i64 d], .string s] w (LawPost w) := by
  have hs := Lib.hid sane_any
  have HB := Lib.hid (Below.refl w.heap.size w)
  have bd := Lib.hid (Bk.newAt w #[.int .i64 y, .int .i64 m, .int .i64 d] 23 (w.heap.size) (by simp))
  have HB := Lib.hid (kept_more (o := (.cells #[.int .i64 y, .int .i64 m, .int .i64 d] 23)) HB.out)
  go_enter Tryd.func3, Tryd.ntmps3
  have bd_c0 := bd.out.cell 0
  have bd_c1 := bd.out.cell 1
  have bd_c2 := bd.out.cell 2
  go_wp2_with fail
  refine (h4.out _ HB.out).mono ?_
  rintro e w2 ⟨rfl, hb⟩
  have bd := Lib.hid (bd.out.next hb)
  have HB := Lib.hid (bel_next HB.out hb)
  clear bd_c0 bd_c1 bd_c2
  clear hb
  have bd_c0 := bd.out.cell 0
  have bd_c1 := bd.out.cell 1
  have bd_c2 := bd.out.cell 2
  go_wp2_with fail
  refine (h5.out _ HB.out).mono ?_
  rintro e w3 ⟨rfl, hb⟩
  have bd := Lib.hid (bd.out.next hb)
  have HB := Lib.hid (bel_next HB.out hb)
  clear bd_c0 bd_c1 bd_c2
  clear hb
  go_wp2_with fail
  refine (h6.out _ HB.out).mono ?_
  rintro e w4 ⟨rfl, hb⟩
  have bd := Lib.hid (bd.out.next hb)
  have HB := Lib.hid (bel_next HB.out hb)
  clear hb
  have bd := Lib.hid (bd.out.more (.cells #[.int .i64 a, .int .i64 b, .int .i64 k] 23))
  have bx := Lib.hid (Bk.newAt w4 #[.int .i64 a, .int .i64 b, .int .i64 k] 23 (w4.heap.size) (by simp))
  have HB := Lib.hid (kept_more (o := (.cells #[.int .i64 a, .int .i64 b, .int .i64 k] 23)) HB.out)
  go_wp2_with fail
  refine (h7.out _ HB.out).mono ?_
  rintro e w5 ⟨rfl, hb⟩
  have bd := Lib.hid (bd.out.next hb)
  have bx := Lib.hid (bx.out.next hb)
  have HB := Lib.hid (bel_next HB.out hb)
  clear hb
  have bd := Lib.hid (bd.out.more (.cells #[.int .i64 a, .int .i64 b, .int .i64 k] 23))
  have bx := Lib.hid (bx.out.more (.cells #[.int .i64 a, .int .i64 b, .int .i64 k] 23))
  have by0 := Lib.hid (Bk.newAt w5 #[.int .i64 a, .int .i64 b, .int .i64 k] 23 (w5.heap.size) (by simp))
  have HB := Lib.hid (kept_more (o := (.cells #[.int .i64 a, .int .i64 b, .int .i64 k] 23)) HB.out)
  have bx_c0 := bx.out.cell 0
  have bx_c1 := bx.out.cell 1
  have bx_c2 := bx.out.cell 2
  have by0_c0 := by0.out.cell 0
  have by0_c1 := by0.out.cell 1
  have by0_c2 := by0.out.cell 2
  go_wp2_with fail
  refine (hs.out _).mono ?_
  rintro e w6 ⟨rfl, hb⟩
  have bd := Lib.hid (bd.out.next hb)
  have bx := Lib.hid (bx.out.next hb)
  have by0 := Lib.hid (by0.out.next hb)
  have HB := Lib.hid (bel_next HB.out hb)
  clear bx_c0 bx_c1 bx_c2 by0_c0 by0_c1 by0_c2
  clear hb
  have bx_c0 := bx.out.cell 0
  have bx_c1 := bx.out.cell 1
  have bx_c2 := bx.out.cell 2
  go_wp2_with fail
  refine (hf.out _ HB.out).mono ?_
  rintro e w7 ⟨rfl, hb⟩
  have bd := Lib.hid (bd.out.next hb)
  have bx := Lib.hid (bx.out.next hb)
  have by0 := Lib.hid (by0.out.next hb)
  have HB := Lib.hid (bel_next HB.out hb)
  clear bx_c0 bx_c1 bx_c2
  clear hb
  go_wp2_with fail
  go_ret
  exact ⟨rfl, HB.out⟩

set_option maxRecDepth 100000 in
set_option maxHeartbeats 3200000 in
theorem texts_yy (c y m d a b k e g : Int) (s t : ByteArray) (w : World) (h4 : Hid (FmtIs 4 w c y m d t e)) (h5 : Hid (FmtIs 5 w c y m d t e)) (h6 : Hid (ParIs 6 w c s a b k g)) (h7 : Hid (ParIs 7 w c s a b k g)) (te : (e == 0) = true) (tg : (g == 0) = true) (hp : Hid (ParIs 6 w c t y m d 0)) (hf : Hid (FmtIs 4 w c a b k s 0)) : Calls Tryd.prog 3 #[.int .i64 c, .agg #[.int .i64 y, .int .i64 m, .int .i64 d], .string s] w (LawPost w) := by
  have hs := Lib.hid sane_any
  have HB := Lib.hid (Below.refl w.heap.size w)
  have bd := Lib.hid (Bk.newAt w #[.int .i64 y, .int .i64 m, .int .i64 d] 23 (w.heap.size) (by simp))
  have HB := Lib.hid (kept_more (o := (.cells #[.int .i64 y, .int .i64 m, .int .i64 d] 23)) HB.out)
  go_enter Tryd.func3, Tryd.ntmps3
  have bd_c0 := bd.out.cell 0
  have bd_c1 := bd.out.cell 1
  have bd_c2 := bd.out.cell 2
  go_wp2_with fail
  refine (h4.out _ HB.out).mono ?_
  rintro e w2 ⟨rfl, hb⟩
  have bd := Lib.hid (bd.out.next hb)
  have HB := Lib.hid (bel_next HB.out hb)
  clear bd_c0 bd_c1 bd_c2
  clear hb
  have bd_c0 := bd.out.cell 0
  have bd_c1 := bd.out.cell 1
  have bd_c2 := bd.out.cell 2
  go_wp2_with fail
  refine (h5.out _ HB.out).mono ?_
  rintro e w3 ⟨rfl, hb⟩
  have bd := Lib.hid (bd.out.next hb)
  have HB := Lib.hid (bel_next HB.out hb)
  clear bd_c0 bd_c1 bd_c2
  clear hb
  go_wp2_with fail
  refine (h6.out _ HB.out).mono ?_
  rintro e w4 ⟨rfl, hb⟩
  have bd := Lib.hid (bd.out.next hb)
  have HB := Lib.hid (bel_next HB.out hb)
  clear hb
  have bd := Lib.hid (bd.out.more (.cells #[.int .i64 a, .int .i64 b, .int .i64 k] 23))
  have bx := Lib.hid (Bk.newAt w4 #[.int .i64 a, .int .i64 b, .int .i64 k] 23 (w4.heap.size) (by simp))
  have HB := Lib.hid (kept_more (o := (.cells #[.int .i64 a, .int .i64 b, .int .i64 k] 23)) HB.out)
  go_wp2_with fail
  refine (h7.out _ HB.out).mono ?_
  rintro e w5 ⟨rfl, hb⟩
  have bd := Lib.hid (bd.out.next hb)
  have bx := Lib.hid (bx.out.next hb)
  have HB := Lib.hid (bel_next HB.out hb)
  clear hb
  have bd := Lib.hid (bd.out.more (.cells #[.int .i64 a, .int .i64 b, .int .i64 k] 23))
  have bx := Lib.hid (bx.out.more (.cells #[.int .i64 a, .int .i64 b, .int .i64 k] 23))
  have by0 := Lib.hid (Bk.newAt w5 #[.int .i64 a, .int .i64 b, .int .i64 k] 23 (w5.heap.size) (by simp))
  have HB := Lib.hid (kept_more (o := (.cells #[.int .i64 a, .int .i64 b, .int .i64 k] 23)) HB.out)
  have bx_c0 := bx.out.cell 0
  have bx_c1 := bx.out.cell 1
  have bx_c2 := bx.out.cell 2
  have by0_c0 := by0.out.cell 0
  have by0_c1 := by0.out.cell 1
  have by0_c2 := by0.out.cell 2
  go_wp2_with fail
  refine (hs.out _).mono ?_
  rintro e w6 ⟨rfl, hb⟩
  have bd := Lib.hid (bd.out.next hb)
  have bx := Lib.hid (bx.out.next hb)
  have by0 := Lib.hid (by0.out.next hb)
  have HB := Lib.hid (bel_next HB.out hb)
  clear bx_c0 bx_c1 bx_c2 by0_c0 by0_c1 by0_c2
  clear hb
  go_wp2_with fail
  refine (hp.out _ HB.out).mono ?_
  rintro e w7 ⟨rfl, hb⟩
  have bd := Lib.hid (bd.out.next hb)
  have bx := Lib.hid (bx.out.next hb)
  have by0 := Lib.hid (by0.out.next hb)
  have HB := Lib.hid (bel_next HB.out hb)
  clear hb
  have bd := Lib.hid (bd.out.more (.cells #[.int .i64 y, .int .i64 m, .int .i64 d] 23))
  have bx := Lib.hid (bx.out.more (.cells #[.int .i64 y, .int .i64 m, .int .i64 d] 23))
  have by0 := Lib.hid (by0.out.more (.cells #[.int .i64 y, .int .i64 m, .int .i64 d] 23))
  have bb := Lib.hid (Bk.newAt w7 #[.int .i64 y, .int .i64 m, .int .i64 d] 23 (w7.heap.size) (by simp))
  have HB := Lib.hid (kept_more (o := (.cells #[.int .i64 y, .int .i64 m, .int .i64 d] 23)) HB.out)
  have bb_c0 := bb.out.cell 0
  have bb_c1 := bb.out.cell 1
  have bb_c2 := bb.out.cell 2
  have bd_c0 := bd.out.cell 0
  have bd_c1 := bd.out.cell 1
  have bd_c2 := bd.out.cell 2
  have bx_c0 := bx.out.cell 0
  have bx_c1 := bx.out.cell 1
  have bx_c2 := bx.out.cell 2
  go_wp2_with fail
  refine (hf.out _ HB.out).mono ?_
  rintro e w8 ⟨rfl, hb⟩
  have bd := Lib.hid (bd.out.next hb)
  have bx := Lib.hid (bx.out.next hb)
  have by0 := Lib.hid (by0.out.next hb)
  have bb := Lib.hid (bb.out.next hb)
  have HB := Lib.hid (bel_next HB.out hb)
  clear bb_c0 bb_c1 bb_c2 bd_c0 bd_c1 bd_c2 bx_c0 bx_c1 bx_c2
  clear hb
  go_wp2_with fail
  go_ret
  exact ⟨rfl, HB.out⟩
end Go.Proofs.YthpeaeepcbbfcaaDoor
