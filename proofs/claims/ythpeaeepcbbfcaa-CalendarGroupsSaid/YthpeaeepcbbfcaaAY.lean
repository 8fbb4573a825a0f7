/- The law CalendarGroups, where both Groups answer alike. -/
import Derived.Test.YthpeaeepcbbfcaaAW
namespace Go.Proofs.Ythpeaeepcbbfcaa
open Go.RowKit

/-- What both Groups return: the keys, the groups, an error. -/
def GrPost (n1 : Nat) (L : List Int) (ls : List (List Int)) (g : Int) (w : World) (z : Ending) (w' : World) : Prop :=
  ∃ p q c d, z = .returned (.tuple #[.slice p n1 c, .slice q n1 d, .int .i64 g]) ∧ n1 ≤ c ∧ n1 ≤ d ∧ Rd w' p n1 L ∧ Rs w' q n1 ls ∧ Below w.heap.size w w'
theorem GrPost.err {e : Int} {w w' : World} {z : Ending} (h : z = .returned (.tuple #[.slice none 0 0, .slice none 0 0, .int .i64 e]) ∧ Below w.heap.size w w') : GrPost 0 [] [] e w z w' :=
  ⟨none, none, 0, 0, h.1, Nat.le_refl _, Nat.le_refl _, Rd.nil _ _, Rs.nil _ _, h.2⟩

set_option maxRecDepth 100000 in
set_option maxHeartbeats 3200000 in
theorem groups_big (cal fld : Int) (cyc : Bool) (p : Option Addr) (n c : Nat) (w : World) (hn : (200 : Int) < n) : Calls Try.prog 9 #[.agg #[.int .i64 cal, .int .i64 fld, .slice p n c, .bool cyc]] w (LawPost w) := by
  have hs := Lib.hid sane_any
  have HB := Lib.hid (Below.refl w.heap.size w)
  have bx := Lib.hid (Bk.newAt w #[.int .i64 cal, .int .i64 fld, .slice p n c, .bool cyc] 52 (w.heap.size) (by simp))
  have HB := Lib.hid (kept_more (o := (.cells #[.int .i64 cal, .int .i64 fld, .slice p n c, .bool cyc] 52)) HB.out)
  go_enter Try.func9, Try.ntmps9
  have bx_c0 := bx.out.cell 0
  have bx_c1 := bx.out.cell 1
  have bx_c2 := bx.out.cell 2
  have bx_c3 := bx.out.cell 3
  go_wp2_with fail
  refine (hs.out _).mono ?_
  rintro e w2 ⟨rfl, hb⟩
  have bx := Lib.hid (bx.out.next hb)
  have HB := Lib.hid (bel_next HB.out hb)
  clear bx_c0 bx_c1 bx_c2 bx_c3
  clear hb
  go_wp2_with fail
  go_ret
  exact ⟨rfl, HB.out⟩

set_option maxRecDepth 100000 in
set_option maxHeartbeats 3200000 in
theorem groups_small (cal fld g : Int) (cyc : Bool) (p : Option Addr) (n c n1 : Nat) (L : List Int) (ls : List (List Int)) (w : World) (hn : (n : Int) ≤ 200) (hn1 : n1 ≤ 1000) (h3 : Hid (∀ W, Below w.heap.size w W → Calls Try.prog 43 #[.int .i64 cal, .slice p n c, .int .i64 fld, .bool cyc] W (GrPost n1 L ls g W))) (h4 : Hid (∀ W, Below w.heap.size w W → Calls Try.prog 44 #[.int .i64 cal, .slice p n c, .int .i64 fld, .bool cyc] W (GrPost n1 L ls g W))) : Calls Try.prog 9 #[.agg #[.int .i64 cal, .int .i64 fld, .slice p n c, .bool cyc]] w (LawPost w) := by
  have hs := Lib.hid sane_any
  have HB := Lib.hid (Below.refl w.heap.size w)
  have bx := Lib.hid (Bk.newAt w #[.int .i64 cal, .int .i64 fld, .slice p n c, .bool cyc] 52 (w.heap.size) (by simp))
  have HB := Lib.hid (kept_more (o := (.cells #[.int .i64 cal, .int .i64 fld, .slice p n c, .bool cyc] 52)) HB.out)
  go_enter Try.func9, Try.ntmps9
  have bx_c0 := bx.out.cell 0
  have bx_c1 := bx.out.cell 1
  have bx_c2 := bx.out.cell 2
  have bx_c3 := bx.out.cell 3
  go_wp2_with fail
  refine (h3.out _ HB.out).mono ?_
  rintro e w2 ⟨p1, q1, c1, d1, rfl, hc1, hd1, hr1, hr2, hb⟩
  have R1 := Lib.hid hr1
  have R2 := Lib.hid hr2
  clear hr1 hr2
  have bx := Lib.hid (bx.out.next hb)
  have HB := Lib.hid (bel_next HB.out hb)
  clear bx_c0 bx_c1 bx_c2 bx_c3
  clear hb
  have bx_c0 := bx.out.cell 0
  have bx_c1 := bx.out.cell 1
  have bx_c2 := bx.out.cell 2
  have bx_c3 := bx.out.cell 3
  go_wp2_with fail
  refine (h4.out _ HB.out).mono ?_
  rintro e w3 ⟨p2, q2, c2, d2, rfl, hc2, hd2, hr1, hr2, hb⟩
  have R1 := Lib.hid (R1.out.below hb)
  have R2 := Lib.hid (R2.out.below hb)
  have R3 := Lib.hid hr1
  have R4 := Lib.hid hr2
  clear hr1 hr2
  have bx := Lib.hid (bx.out.next hb)
  have HB := Lib.hid (bel_next HB.out hb)
  clear bx_c0 bx_c1 bx_c2 bx_c3
  clear hb
  have hs1 := Lib.hid (fun W (hW : Below w3.heap.size w3 W) => same_any p1 p2 n1 c1 c2 L W hn1 hc1 hc2 (R1.out.below hW) (R3.out.below hW))
  have hs2 := Lib.hid (fun W (hW : Below w3.heap.size w3 W) => sameGroups_any q1 q2 n1 d1 d2 ls W hn1 hd1 hd2 (R2.out.below hW) (R4.out.below hW))
  have HC := Lib.hid (Below.refl w3.heap.size w3)
  clear hc1 hc2 hd1 hd2
  go_wp2_with fail
  refine (hs1.out _ HC.out).mono ?_
  rintro e w4 ⟨rfl, hb⟩
  have HC := Lib.hid (bel_next HC.out hb)
  have bx := Lib.hid (bx.out.next hb)
  have HB := Lib.hid (bel_next HB.out hb)
  clear hb
  go_wp2_with fail
  refine (hs2.out _ HC.out).mono ?_
  rintro e w5 ⟨rfl, hb⟩
  have HC := Lib.hid (bel_next HC.out hb)
  have bx := Lib.hid (bx.out.next hb)
  have HB := Lib.hid (bel_next HB.out hb)
  clear hb
  go_wp2_with fail
  refine (hs.out _).mono ?_
  rintro e w6 ⟨rfl, hb⟩
  have bx := Lib.hid (bx.out.next hb)
  have HB := Lib.hid (bel_next HB.out hb)
  clear hb
  go_wp2_with fail
  go_ret
  exact ⟨rfl, HB.out⟩
end Go.Proofs.Ythpeaeepcbbfcaa
