/- DateOf of the document; the law CalendarNumbers. -/
import Derived.Test.YthpeaeepcbbfcaaAH
import Derived.Laws.StructEq
namespace Go.Proofs.Ythpeaeepcbbfcaa
open Go.RowKit

set_option maxRecDepth 100000 in
set_option maxHeartbeats 1600000 in
theorem rDateOf_nocal (c n : Int) (w : World) (h : ¬ isCal c) : Calls Try.prog 31 #[.int .i64 c, .int .i64 n] w fun e w' => e = .returned (.tuple #[.agg #[.int .i64 0, .int .i64 0, .int .i64 0], .int .i64 20]) ∧ Below w.heap.size w w' := by
  have hn := Lib.hid (fun W => rname_no c W h)
  clear h
  have HB := Lib.hid (Below.refl w.heap.size w)
  have br := Lib.hid (Bk.newAt w #[.int .i64 0, .int .i64 0, .int .i64 0] 28 (w.heap.size) (by simp))
  have HB := Lib.hid (kept_more (o := (.cells #[.int .i64 0, .int .i64 0, .int .i64 0] 28)) HB.out)
  go_enter Try.func31, Try.ntmps31
  go_wp2_with fail
  refine (hn.out _).mono ?_
  rintro e w2 ⟨rfl, hb⟩
  have br := Lib.hid (br.out.next hb)
  have HB := Lib.hid (bel_next HB.out hb)
  clear hb
  have br_c0 := br.out.cell 0
  have br_f0 := br.out.free 0
  have br_c1 := br.out.cell 1
  have br_f1 := br.out.free 1
  have br_c2 := br.out.cell 2
  have br_f2 := br.out.free 2
  go_wp2_with fail
  refine bodyPost_ret (v := .tuple #[.agg #[.int .i64 0, .int .i64 0, .int .i64 0], .int .i64 20]) (by simp [results, Try.results31, go_sem, br_c0, br_c1, br_c2]) rfl ⟨rfl, setCell3 HB.out _ _ _⟩

set_option maxRecDepth 100000 in
set_option maxHeartbeats 1600000 in
theorem rDateOf_bad (c n : Int) (w : World) (h : isCal c) (hx : ¬ (start c (-9999) ≤ n ∧ n < start c 10000)) : Calls Try.prog 31 #[.int .i64 c, .int .i64 n] w fun e w' => e = .returned (.tuple #[.agg #[.int .i64 0, .int .i64 0, .int .i64 0], .int .i64 21]) ∧ Below w.heap.size w w' := by
  obtain ⟨nm, hnm, hn'⟩ := rname_any c h
  obtain ⟨e1, e2⟩ := hnm
  have hn := Lib.hid hn'
  clear hn'
  have hd := Lib.hid (fun W => rdate_bad W h hx)
  clear hx
  have HB := Lib.hid (Below.refl w.heap.size w)
  have br := Lib.hid (Bk.newAt w #[.int .i64 0, .int .i64 0, .int .i64 0] 28 (w.heap.size) (by simp))
  have HB := Lib.hid (kept_more (o := (.cells #[.int .i64 0, .int .i64 0, .int .i64 0] 28)) HB.out)
  go_enter Try.func31, Try.ntmps31
  go_wp2_with fail
  refine (hn.out _).mono ?_
  rintro e w2 ⟨rfl, hb⟩
  have br := Lib.hid (br.out.next hb)
  have HB := Lib.hid (bel_next HB.out hb)
  clear hb
  go_wp2_with fail
  refine (hd.out _).mono ?_
  rintro e w3 ⟨rfl, hb⟩
  have br := Lib.hid (br.out.next hb)
  have HB := Lib.hid (bel_next HB.out hb)
  clear hb
  have br := Lib.hid (br.out.more (.cells #[.int .i64 0, .int .i64 0, .int .i64 0] 28))
  have bx := Lib.hid (Bk.newAt w3 #[.int .i64 0, .int .i64 0, .int .i64 0] 28 (w3.heap.size) (by simp))
  have HB := Lib.hid (kept_more (o := (.cells #[.int .i64 0, .int .i64 0, .int .i64 0] 28)) HB.out)
  have br_c0 := br.out.cell 0
  have br_f0 := br.out.free 0
  have br_c1 := br.out.cell 1
  have br_f1 := br.out.free 1
  have br_c2 := br.out.cell 2
  have br_f2 := br.out.free 2
  go_wp2_with fail
  refine bodyPost_ret (v := .tuple #[.agg #[.int .i64 0, .int .i64 0, .int .i64 0], .int .i64 21]) (by simp [results, Try.results31, go_sem, br_c0, br_c1, br_c2]) rfl ⟨rfl, setCell3 HB.out _ _ _⟩

set_option maxRecDepth 100000 in
set_option maxHeartbeats 1600000 in
theorem rDateOf_yes (c n y m d : Int) (w : World) (h : isCal c) (hok : Ok c y m d) (hnum : num c y m d = n) : Calls Try.prog 31 #[.int .i64 c, .int .i64 n] w fun e w' => e = .returned (.tuple #[.agg #[.int .i64 y, .int .i64 m, .int .i64 d], .int .i64 0]) ∧ Below w.heap.size w w' := by
  obtain ⟨nm, hnm, hn'⟩ := rname_any c h
  obtain ⟨e1, e2⟩ := hnm
  have hn := Lib.hid hn'
  clear hn'
  have hd := Lib.hid (fun W => rdate_at W h hok hnum)
  clear hok hnum
  have HB := Lib.hid (Below.refl w.heap.size w)
  have br := Lib.hid (Bk.newAt w #[.int .i64 0, .int .i64 0, .int .i64 0] 28 (w.heap.size) (by simp))
  have HB := Lib.hid (kept_more (o := (.cells #[.int .i64 0, .int .i64 0, .int .i64 0] 28)) HB.out)
  go_enter Try.func31, Try.ntmps31
  go_wp2_with fail
  refine (hn.out _).mono ?_
  rintro e w2 ⟨rfl, hb⟩
  have br := Lib.hid (br.out.next hb)
  have HB := Lib.hid (bel_next HB.out hb)
  clear hb
  go_wp2_with fail
  refine (hd.out _).mono ?_
  rintro e w3 ⟨rfl, hb⟩
  have br := Lib.hid (br.out.next hb)
  have HB := Lib.hid (bel_next HB.out hb)
  clear hb
  have br := Lib.hid (br.out.more (.cells #[.int .i64 y, .int .i64 m, .int .i64 d] 28))
  have bx := Lib.hid (Bk.newAt w3 #[.int .i64 y, .int .i64 m, .int .i64 d] 28 (w3.heap.size) (by simp))
  have HB := Lib.hid (kept_more (o := (.cells #[.int .i64 y, .int .i64 m, .int .i64 d] 28)) HB.out)
  have bx_c0 := bx.out.cell 0
  have bx_c1 := bx.out.cell 1
  have bx_c2 := bx.out.cell 2
  have br_c0 := br.out.cell 0
  have br_f0 := br.out.free 0
  have br_c1 := br.out.cell 1
  have br_f1 := br.out.free 1
  have br_c2 := br.out.cell 2
  have br_f2 := br.out.free 2
  go_wp2_with fail
  refine bodyPost_ret (v := .tuple #[.agg #[.int .i64 y, .int .i64 m, .int .i64 d], .int .i64 0]) (by simp [results, Try.results31, go_sem, br_c0, br_c1, br_c2]) rfl ⟨rfl, setCell3 HB.out _ _ _⟩

theorem dateOf_pair (c n : Int) : ∃ y m d e : Int, (∀ W, Calls Try.prog 30 #[.int .i64 c, .int .i64 n] W fun x w' => x = .returned (.tuple #[.agg #[.int .i64 y, .int .i64 m, .int .i64 d], .int .i64 e]) ∧ Below W.heap.size W w') ∧ (∀ W, Calls Try.prog 31 #[.int .i64 c, .int .i64 n] W fun x w' => x = .returned (.tuple #[.agg #[.int .i64 y, .int .i64 m, .int .i64 d], .int .i64 e]) ∧ Below W.heap.size W w') := by
  by_cases hc : isCal c
  · rcases date_cases c n with ⟨y, m, d, hok, hnum⟩ | hn
    · exact ⟨y, m, d, 0, fun W => dateOf_at W hc hok hnum, fun W => rDateOf_yes c n y m d W hc hok hnum⟩
    · exact ⟨0, 0, 0, 21, fun W => dateOf_bad c n W hc hn, fun W => rDateOf_bad c n W hc hn⟩
  · exact ⟨0, 0, 0, 20, fun W => dateOf_no c n W hc, fun W => rDateOf_nocal c n W hc⟩

set_option maxRecDepth 100000 in
set_option maxHeartbeats 3200000 in
theorem numbers_walk (c y m d n v e p q r e2 : Int) (w : World) (a1 : Hid (∀ W, Calls Try.prog 28 #[.int .i64 c, .agg #[.int .i64 y, .int .i64 m, .int .i64 d]] W fun x w' => x = .returned (.tuple #[.int .i64 v, .int .i64 e]) ∧ Below W.heap.size W w')) (a2 : Hid (∀ W, Calls Try.prog 29 #[.int .i64 c, .agg #[.int .i64 y, .int .i64 m, .int .i64 d]] W fun x w' => x = .returned (.tuple #[.int .i64 v, .int .i64 e]) ∧ Below W.heap.size W w')) (b1 : Hid (∀ W, Calls Try.prog 30 #[.int .i64 c, .int .i64 n] W fun x w' => x = .returned (.tuple #[.agg #[.int .i64 p, .int .i64 q, .int .i64 r], .int .i64 e2]) ∧ Below W.heap.size W w')) (b2 : Hid (∀ W, Calls Try.prog 31 #[.int .i64 c, .int .i64 n] W fun x w' => x = .returned (.tuple #[.agg #[.int .i64 p, .int .i64 q, .int .i64 r], .int .i64 e2]) ∧ Below W.heap.size W w')) : Calls Try.prog 5 #[.int .i64 c, .agg #[.int .i64 y, .int .i64 m, .int .i64 d], .int .i64 n] w (LawPost w) := by
  have hs := Lib.hid sane_any
  have HB := Lib.hid (Below.refl w.heap.size w)
  have bd := Lib.hid (Bk.newAt w #[.int .i64 y, .int .i64 m, .int .i64 d] 28 (w.heap.size) (by simp))
  have HB := Lib.hid (kept_more (o := (.cells #[.int .i64 y, .int .i64 m, .int .i64 d] 28)) HB.out)
  go_enter Try.func5, Try.ntmps5
  go_wp2_with fail
  refine (a1.out _).mono ?_
  rintro e w2 ⟨rfl, hb⟩
  have bd := Lib.hid (bd.out.next hb)
  have HB := Lib.hid (bel_next HB.out hb)
  clear hb
  have bd_c0 := bd.out.cell 0
  have bd_c1 := bd.out.cell 1
  have bd_c2 := bd.out.cell 2
  go_wp2_with fail
  refine (a2.out _).mono ?_
  rintro e w3 ⟨rfl, hb⟩
  have bd := Lib.hid (bd.out.next hb)
  have HB := Lib.hid (bel_next HB.out hb)
  clear bd_c0 bd_c1 bd_c2
  clear hb
  go_wp2_with fail
  refine (b1.out _).mono ?_
  rintro e w4 ⟨rfl, hb⟩
  have bd := Lib.hid (bd.out.next hb)
  have HB := Lib.hid (bel_next HB.out hb)
  clear hb
  have bd := Lib.hid (bd.out.more (.cells #[.int .i64 p, .int .i64 q, .int .i64 r] 28))
  have bx := Lib.hid (Bk.newAt w4 #[.int .i64 p, .int .i64 q, .int .i64 r] 28 (w4.heap.size) (by simp))
  have HB := Lib.hid (kept_more (o := (.cells #[.int .i64 p, .int .i64 q, .int .i64 r] 28)) HB.out)
  go_wp2_with fail
  refine (b2.out _).mono ?_
  rintro e w5 ⟨rfl, hb⟩
  have bd := Lib.hid (bd.out.next hb)
  have bx := Lib.hid (bx.out.next hb)
  have HB := Lib.hid (bel_next HB.out hb)
  clear hb
  have bd := Lib.hid (bd.out.more (.cells #[.int .i64 p, .int .i64 q, .int .i64 r] 28))
  have bx := Lib.hid (bx.out.more (.cells #[.int .i64 p, .int .i64 q, .int .i64 r] 28))
  have bq := Lib.hid (Bk.newAt w5 #[.int .i64 p, .int .i64 q, .int .i64 r] 28 (w5.heap.size) (by simp))
  have HB := Lib.hid (kept_more (o := (.cells #[.int .i64 p, .int .i64 q, .int .i64 r] 28)) HB.out)
  have bx_c0 := bx.out.cell 0
  have bx_c1 := bx.out.cell 1
  have bx_c2 := bx.out.cell 2
  have bq_c0 := bq.out.cell 0
  have bq_c1 := bq.out.cell 1
  have bq_c2 := bq.out.cell 2
  go_wp2_with fail
  refine (hs.out _).mono ?_
  rintro e w6 ⟨rfl, hb⟩
  have bd := Lib.hid (bd.out.next hb)
  have bx := Lib.hid (bx.out.next hb)
  have bq := Lib.hid (bq.out.next hb)
  have HB := Lib.hid (bel_next HB.out hb)
  clear bx_c0 bx_c1 bx_c2 bq_c0 bq_c1 bq_c2
  clear hb
  go_wp2_with fail
  go_ret
  exact ⟨rfl, HB.out⟩

theorem numbers_any (c y m d n : Int) (w : World) : Calls Try.prog 5 #[.int .i64 c, .agg #[.int .i64 y, .int .i64 m, .int .i64 d], .int .i64 n] w (LawPost w) := by
  obtain ⟨p, q, r, e2, b1, b2⟩ := dateOf_pair c n
  exact numbers_walk c y m d n _ _ p q r e2 w (Lib.hid (number_all c y m d)) (Lib.hid (rNumber_any c y m d)) (Lib.hid b1) (Lib.hid b2)
end Go.Proofs.Ythpeaeepcbbfcaa
