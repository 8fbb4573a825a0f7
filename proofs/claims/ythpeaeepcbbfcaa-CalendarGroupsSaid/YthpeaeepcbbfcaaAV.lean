/- The law CalendarMaps. -/
import Derived.Test.YthpeaeepcbbfcaaAU
import Derived.Laws.StructEq
namespace Go.Proofs.Ythpeaeepcbbfcaa
open Go.RowKit

/-- What both MapAll return: two lists, an error. -/
def AllPost (n1 : Nat) (L1 L2 : List Int) (g : Int) (w : World) (z : Ending) (w' : World) : Prop :=
  ∃ p q c d, z = .returned (.tuple #[.slice p n1 c, .slice q n1 d, .int .i64 g]) ∧ n1 ≤ c ∧ n1 ≤ d ∧ Rd w' p n1 L1 ∧ Rd w' q n1 L2 ∧ Below w.heap.size w w'
theorem AllPost.err {e : Int} {w w' : World} {z : Ending} (h : z = .returned (.tuple #[.slice none 0 0, .slice none 0 0, .int .i64 e]) ∧ Below w.heap.size w w') : AllPost 0 [] [] e w z w' :=
  ⟨none, none, 0, 0, h.1, Nat.le_refl _, Nat.le_refl _, Rd.nil _ _, Rd.nil _ _, h.2⟩
theorem exists_maps (a b : Int) (l : List Int) : ∀ n : Nat, (∀ i, i < n → IsDay a (l.getD i 0)) → ∃ L1 L2 : List Int, L1.length = n ∧ L2.length = n ∧ ∀ i, i < n → MapAt a b (l.getD i 0) (L1.getD i 0) (L2.getD i 0) := by
  intro n
  induction n with
  | zero => intro _; exact ⟨[], [], rfl, rfl, fun i hi => absurd hi (Nat.not_lt_zero i)⟩
  | succ n ih =>
    intro h
    obtain ⟨L1, L2, h1, h2, h3⟩ := ih (fun i hi => h i (by omega))
    have hday := h n (by omega)
    obtain ⟨y, m, d, hok, hnum⟩ := date_exists a (l.getD n 0) hday.1 hday.2
    by_cases hb : Ok b y m d
    · exact ⟨L1 ++ [num b y m d], L2 ++ [0], by simp [h1], by simp [h2], done_step h1 h2 h3 ⟨y, m, d, hok, hnum, .inl ⟨hb, rfl, rfl⟩⟩⟩
    · exact ⟨L1 ++ [0], L2 ++ [1], by simp [h1], by simp [h2], done_step h1 h2 h3 ⟨y, m, d, hok, hnum, .inr ⟨hb, rfl, rfl⟩⟩⟩
theorem lists_eq {L L' : List Int} {n : Nat} (h1 : L.length = n) (h2 : L'.length = n) (h : ∀ i, i < n → L.getD i 0 = L'.getD i 0) : L = L' := by
  refine List.ext_getElem (h1.trans h2.symm) fun i g1 g2 => ?_
  have := h i (by omega)
  rw [List.getD_eq_getElem?_getD, List.getD_eq_getElem?_getD, List.getElem?_eq_getElem g1, List.getElem?_eq_getElem g2] at this
  exact this
theorem MapsTo.post {a b : Int} {n : Nat} {l L1 L2 : List Int} {w w' : World} {z : Ending} (h : MapsTo a b n l w z w') (h1 : L1.length = n) (h2 : L2.length = n) (hm : ∀ i, i < n → MapAt a b (l.getD i 0) (L1.getD i 0) (L2.getD i 0)) : AllPost n L1 L2 0 w z w' := by
  obtain ⟨hb, p, q, c, d, M1, M2, hz, hc, hd, hr1, hr2, hm'⟩ := h
  obtain rfl : M1 = L1 := lists_eq hr1.len h1 fun i hi => ((hm' i hi).one (hm i hi)).1
  obtain rfl : M2 = L2 := lists_eq hr2.len h2 fun i hi => ((hm' i hi).one (hm i hi)).2
  exact ⟨p, q, c, d, hz, hc, hd, hr1, hr2, hb⟩
/-- Both MapAll answer alike. -/
theorem maps_pair (a b : Int) (p : Option Addr) (n c : Nat) (l : List Int) (w0 : World) (hn : n ≤ 1000) (hnc : n ≤ c) (hl : Rd w0 p n l) : ∃ (n1 : Nat) (L1 L2 : List Int) (g : Int), n1 ≤ 1000 ∧ Hid (∀ W, Below w0.heap.size w0 W → Calls Try.prog 36 #[.int .i64 a, .int .i64 b, .slice p n c] W (AllPost n1 L1 L2 g W)) ∧ Hid (∀ W, Below w0.heap.size w0 W → Calls Try.prog 37 #[.int .i64 a, .int .i64 b, .slice p n c] W (AllPost n1 L1 L2 g W)) := by
  by_cases ha : isCal a
  · by_cases hb : isCal b
    · by_cases hd : ∀ i, i < n → IsDay a (l.getD i 0)
      · obtain ⟨L1, L2, h1, h2, h3⟩ := exists_maps a b l n hd
        exact ⟨n, L1, L2, 0, hn, Lib.hid fun W hW => (mapall_ok a b p n c l W hn hnc (hl.below hW) ha hb hd).mono fun _ _ h => h.post h1 h2 h3, Lib.hid fun W hW => (rmapall_ok a b p n c l W hn hnc (hl.below hW) ha hb hd).mono fun _ _ h => h.post h1 h2 h3⟩
      · have hd' : ∃ i, i < n ∧ ¬ IsDay a (l.getD i 0) := by
          refine Classical.byContradiction fun hx => hd fun i hi => Classical.byContradiction fun hy => hx ⟨i, hi, hy⟩
        exact ⟨0, [], [], 21, by omega, Lib.hid fun W hW => (mapall_bad a b p n c l W hn hnc (hl.below hW) ha hb hd').mono fun _ _ h => AllPost.err h, Lib.hid fun W hW => (rmapall_bad a b p n c l W hn hnc (hl.below hW) ha hb hd').mono fun _ _ h => AllPost.err h⟩
    · exact ⟨0, [], [], 20, by omega, Lib.hid fun W _ => (mapall_yn a b p n c W ha hb).mono fun _ _ h => AllPost.err h, Lib.hid fun W _ => (rmapall_yn a b p n c W ha hb).mono fun _ _ h => AllPost.err h⟩
  · by_cases hb : isCal b
    · exact ⟨0, [], [], 20, by omega, Lib.hid fun W _ => (mapall_ny a b p n c W ha hb).mono fun _ _ h => AllPost.err h, Lib.hid fun W _ => (rmapall_n a b p n c W ha).mono fun _ _ h => AllPost.err h⟩
    · exact ⟨0, [], [], 20, by omega, Lib.hid fun W _ => (mapall_nn a b p n c W ha hb).mono fun _ _ h => AllPost.err h, Lib.hid fun W _ => (rmapall_n a b p n c W ha).mono fun _ _ h => AllPost.err h⟩

set_option maxRecDepth 100000 in
set_option maxHeartbeats 3200000 in
theorem maps_big (a b y m d : Int) (p : Option Addr) (n c : Nat) (w : World) (hn : (200 : Int) < n) : Calls Try.prog 7 #[.agg #[.int .i64 a, .int .i64 b, .int .i64 y, .int .i64 m, .int .i64 d, .slice p n c]] w (LawPost w) := by
  have hs := Lib.hid sane_any
  have HB := Lib.hid (Below.refl w.heap.size w)
  have bx := Lib.hid (Bk.newAt w #[.int .i64 a, .int .i64 b, .int .i64 y, .int .i64 m, .int .i64 d, .slice p n c] 43 (w.heap.size) (by simp))
  have HB := Lib.hid (kept_more (o := (.cells #[.int .i64 a, .int .i64 b, .int .i64 y, .int .i64 m, .int .i64 d, .slice p n c] 43)) HB.out)
  go_enter Try.func7, Try.ntmps7
  have bx_c0 := bx.out.cell 0
  have bx_c1 := bx.out.cell 1
  have bx_c2 := bx.out.cell 2
  have bx_c3 := bx.out.cell 3
  have bx_c4 := bx.out.cell 4
  have bx_c5 := bx.out.cell 5
  go_wp2_with fail
  refine (hs.out _).mono ?_
  rintro e w2 ⟨rfl, hb⟩
  have bx := Lib.hid (bx.out.next hb)
  have HB := Lib.hid (bel_next HB.out hb)
  clear bx_c0 bx_c1 bx_c2 bx_c3 bx_c4 bx_c5
  clear hb
  go_wp2_with fail
  go_ret
  exact ⟨rfl, HB.out⟩

set_option maxRecDepth 100000 in
set_option maxHeartbeats 3200000 in
theorem maps_back (a b y m d g : Int) (p : Option Addr) (n c n1 : Nat) (L1 L2 : List Int) (w : World) (hn : (n : Int) ≤ 200) (hn1 : n1 ≤ 1000) (h1 : Hid (∀ W, Calls Try.prog 34 #[.int .i64 a, .int .i64 b, .agg #[.int .i64 y, .int .i64 m, .int .i64 d]] W fun zz w' => zz = .returned (.tuple #[.agg #[.int .i64 y, .int .i64 m, .int .i64 d], .int .i64 0, .int .i64 0]) ∧ Below W.heap.size W w')) (h2 : Hid (∀ W, Calls Try.prog 35 #[.int .i64 a, .int .i64 b, .agg #[.int .i64 y, .int .i64 m, .int .i64 d]] W fun zz w' => zz = .returned (.tuple #[.agg #[.int .i64 y, .int .i64 m, .int .i64 d], .int .i64 0, .int .i64 0]) ∧ Below W.heap.size W w')) (h3 : Hid (∀ W, Below w.heap.size w W → Calls Try.prog 36 #[.int .i64 a, .int .i64 b, .slice p n c] W (AllPost n1 L1 L2 g W))) (h4 : Hid (∀ W, Below w.heap.size w W → Calls Try.prog 37 #[.int .i64 a, .int .i64 b, .slice p n c] W (AllPost n1 L1 L2 g W))) (h6 : Hid (∀ W, Calls Try.prog 34 #[.int .i64 b, .int .i64 a, .agg #[.int .i64 y, .int .i64 m, .int .i64 d]] W fun zz w' => zz = .returned (.tuple #[.agg #[.int .i64 y, .int .i64 m, .int .i64 d], .int .i64 0, .int .i64 0]) ∧ Below W.heap.size W w')) : Calls Try.prog 7 #[.agg #[.int .i64 a, .int .i64 b, .int .i64 y, .int .i64 m, .int .i64 d, .slice p n c]] w (LawPost w) := by
  have hs := Lib.hid sane_any
  have HB := Lib.hid (Below.refl w.heap.size w)
  have bx := Lib.hid (Bk.newAt w #[.int .i64 a, .int .i64 b, .int .i64 y, .int .i64 m, .int .i64 d, .slice p n c] 43 (w.heap.size) (by simp))
  have HB := Lib.hid (kept_more (o := (.cells #[.int .i64 a, .int .i64 b, .int .i64 y, .int .i64 m, .int .i64 d, .slice p n c] 43)) HB.out)
  go_enter Try.func7, Try.ntmps7
  have bx_c0 := bx.out.cell 0
  have bx_c1 := bx.out.cell 1
  have bx_c2 := bx.out.cell 2
  have bx_c3 := bx.out.cell 3
  have bx_c4 := bx.out.cell 4
  have bx_c5 := bx.out.cell 5
  go_wp2_with fail
  refine (h1.out _).mono ?_
  rintro e w2 ⟨rfl, hb⟩
  have bx := Lib.hid (bx.out.next hb)
  have HB := Lib.hid (bel_next HB.out hb)
  clear bx_c0 bx_c1 bx_c2 bx_c3 bx_c4 bx_c5
  clear hb
  have bx := Lib.hid (bx.out.more (.cells #[.int .i64 y, .int .i64 m, .int .i64 d] 28))
  have ba := Lib.hid (Bk.newAt w2 #[.int .i64 y, .int .i64 m, .int .i64 d] 28 (w2.heap.size) (by simp))
  have HB := Lib.hid (kept_more (o := (.cells #[.int .i64 y, .int .i64 m, .int .i64 d] 28)) HB.out)
  have bx_c0 := bx.out.cell 0
  have bx_c1 := bx.out.cell 1
  have bx_c2 := bx.out.cell 2
  have bx_c3 := bx.out.cell 3
  have bx_c4 := bx.out.cell 4
  have bx_c5 := bx.out.cell 5
  go_wp2_with fail
  refine (h2.out _).mono ?_
  rintro e w3 ⟨rfl, hb⟩
  have bx := Lib.hid (bx.out.next hb)
  have ba := Lib.hid (ba.out.next hb)
  have HB := Lib.hid (bel_next HB.out hb)
  clear bx_c0 bx_c1 bx_c2 bx_c3 bx_c4 bx_c5
  clear hb
  have bx := Lib.hid (bx.out.more (.cells #[.int .i64 y, .int .i64 m, .int .i64 d] 28))
  have ba := Lib.hid (ba.out.more (.cells #[.int .i64 y, .int .i64 m, .int .i64 d] 28))
  have bb := Lib.hid (Bk.newAt w3 #[.int .i64 y, .int .i64 m, .int .i64 d] 28 (w3.heap.size) (by simp))
  have HB := Lib.hid (kept_more (o := (.cells #[.int .i64 y, .int .i64 m, .int .i64 d] 28)) HB.out)
  have bx_c0 := bx.out.cell 0
  have bx_c1 := bx.out.cell 1
  have bx_c2 := bx.out.cell 2
  have bx_c3 := bx.out.cell 3
  have bx_c4 := bx.out.cell 4
  have bx_c5 := bx.out.cell 5
  go_wp2_with fail
  refine (h3.out _ HB.out).mono ?_
  rintro e w4 ⟨p1, q1, c1, d1, rfl, hc1, hd1, hr1, hr2, hb⟩
  have R1 := Lib.hid hr1
  have R2 := Lib.hid hr2
  clear hr1 hr2
  have bx := Lib.hid (bx.out.next hb)
  have ba := Lib.hid (ba.out.next hb)
  have bb := Lib.hid (bb.out.next hb)
  have HB := Lib.hid (bel_next HB.out hb)
  clear bx_c0 bx_c1 bx_c2 bx_c3 bx_c4 bx_c5
  clear hb
  have bx_c0 := bx.out.cell 0
  have bx_c1 := bx.out.cell 1
  have bx_c2 := bx.out.cell 2
  have bx_c3 := bx.out.cell 3
  have bx_c4 := bx.out.cell 4
  have bx_c5 := bx.out.cell 5
  go_wp2_with fail
  refine (h4.out _ HB.out).mono ?_
  rintro e w5 ⟨p2, q2, c2, d2, rfl, hc2, hd2, hr1, hr2, hb⟩
  have R1 := Lib.hid (R1.out.below hb)
  have R2 := Lib.hid (R2.out.below hb)
  have R3 := Lib.hid hr1
  have R4 := Lib.hid hr2
  clear hr1 hr2
  have bx := Lib.hid (bx.out.next hb)
  have ba := Lib.hid (ba.out.next hb)
  have bb := Lib.hid (bb.out.next hb)
  have HB := Lib.hid (bel_next HB.out hb)
  clear bx_c0 bx_c1 bx_c2 bx_c3 bx_c4 bx_c5
  clear hb
  have hs1 := Lib.hid (fun W (hW : Below w5.heap.size w5 W) => same_any p1 p2 n1 c1 c2 L1 W hn1 hc1 hc2 (R1.out.below hW) (R3.out.below hW))
  have hs2 := Lib.hid (fun W (hW : Below w5.heap.size w5 W) => same_any q1 q2 n1 d1 d2 L2 W hn1 hd1 hd2 (R2.out.below hW) (R4.out.below hW))
  have HC := Lib.hid (Below.refl w5.heap.size w5)
  clear hc1 hc2 hd1 hd2
  have ba_c0 := ba.out.cell 0
  have ba_c1 := ba.out.cell 1
  have ba_c2 := ba.out.cell 2
  have bb_c0 := bb.out.cell 0
  have bb_c1 := bb.out.cell 1
  have bb_c2 := bb.out.cell 2
  go_wp2_with fail
  refine (hs1.out _ HC.out).mono ?_
  rintro e w6 ⟨rfl, hb⟩
  have HC := Lib.hid (bel_next HC.out hb)
  have bx := Lib.hid (bx.out.next hb)
  have ba := Lib.hid (ba.out.next hb)
  have bb := Lib.hid (bb.out.next hb)
  have HB := Lib.hid (bel_next HB.out hb)
  clear ba_c0 ba_c1 ba_c2 bb_c0 bb_c1 bb_c2
  clear hb
  have ba_c0 := ba.out.cell 0
  have ba_c1 := ba.out.cell 1
  have ba_c2 := ba.out.cell 2
  have bb_c0 := bb.out.cell 0
  have bb_c1 := bb.out.cell 1
  have bb_c2 := bb.out.cell 2
  go_wp2_with fail
  refine (hs2.out _ HC.out).mono ?_
  rintro e w7 ⟨rfl, hb⟩
  have HC := Lib.hid (bel_next HC.out hb)
  have bx := Lib.hid (bx.out.next hb)
  have ba := Lib.hid (ba.out.next hb)
  have bb := Lib.hid (bb.out.next hb)
  have HB := Lib.hid (bel_next HB.out hb)
  clear ba_c0 ba_c1 ba_c2 bb_c0 bb_c1 bb_c2
  clear hb
  have ba_c0 := ba.out.cell 0
  have ba_c1 := ba.out.cell 1
  have ba_c2 := ba.out.cell 2
  have bb_c0 := bb.out.cell 0
  have bb_c1 := bb.out.cell 1
  have bb_c2 := bb.out.cell 2
  go_wp2_with fail
  refine (hs.out _).mono ?_
  rintro e w8 ⟨rfl, hb⟩
  have bx := Lib.hid (bx.out.next hb)
  have ba := Lib.hid (ba.out.next hb)
  have bb := Lib.hid (bb.out.next hb)
  have HB := Lib.hid (bel_next HB.out hb)
  clear ba_c0 ba_c1 ba_c2 bb_c0 bb_c1 bb_c2
  clear hb
  have bx_c0 := bx.out.cell 0
  have bx_c1 := bx.out.cell 1
  have bx_c2 := bx.out.cell 2
  have bx_c3 := bx.out.cell 3
  have bx_c4 := bx.out.cell 4
  have bx_c5 := bx.out.cell 5
  have ba_c0 := ba.out.cell 0
  have ba_c1 := ba.out.cell 1
  have ba_c2 := ba.out.cell 2
  go_wp2_with fail
  refine (h6.out _).mono ?_
  rintro e w9 ⟨rfl, hb⟩
  have bx := Lib.hid (bx.out.next hb)
  have ba := Lib.hid (ba.out.next hb)
  have bb := Lib.hid (bb.out.next hb)
  have HB := Lib.hid (bel_next HB.out hb)
  clear bx_c0 bx_c1 bx_c2 bx_c3 bx_c4 bx_c5 ba_c0 ba_c1 ba_c2
  clear hb
  have bx := Lib.hid (bx.out.more (.cells #[.int .i64 y, .int .i64 m, .int .i64 d] 28))
  have ba := Lib.hid (ba.out.more (.cells #[.int .i64 y, .int .i64 m, .int .i64 d] 28))
  have bb := Lib.hid (bb.out.more (.cells #[.int .i64 y, .int .i64 m, .int .i64 d] 28))
  have bk := Lib.hid (Bk.newAt w9 #[.int .i64 y, .int .i64 m, .int .i64 d] 28 (w9.heap.size) (by simp))
  have HB := Lib.hid (kept_more (o := (.cells #[.int .i64 y, .int .i64 m, .int .i64 d] 28)) HB.out)
  have bx_c0 := bx.out.cell 0
  have bx_c1 := bx.out.cell 1
  have bx_c2 := bx.out.cell 2
  have bx_c3 := bx.out.cell 3
  have bx_c4 := bx.out.cell 4
  have bx_c5 := bx.out.cell 5
  have bk_c0 := bk.out.cell 0
  have bk_c1 := bk.out.cell 1
  have bk_c2 := bk.out.cell 2
  go_wp2_with fail
  go_ret
  exact ⟨rfl, HB.out⟩

set_option maxRecDepth 100000 in
set_option maxHeartbeats 3200000 in
theorem maps_err (a b y m d g l e : Int) (p : Option Addr) (n c n1 : Nat) (L1 L2 : List Int) (w : World) (hn : (n : Int) ≤ 200) (hn1 : n1 ≤ 1000) (h1 : Hid (∀ W, Calls Try.prog 34 #[.int .i64 a, .int .i64 b, .agg #[.int .i64 y, .int .i64 m, .int .i64 d]] W fun zz w' => zz = .returned (.tuple #[.agg #[.int .i64 0, .int .i64 0, .int .i64 0], .int .i64 l, .int .i64 e]) ∧ Below W.heap.size W w')) (h2 : Hid (∀ W, Calls Try.prog 35 #[.int .i64 a, .int .i64 b, .agg #[.int .i64 y, .int .i64 m, .int .i64 d]] W fun zz w' => zz = .returned (.tuple #[.agg #[.int .i64 0, .int .i64 0, .int .i64 0], .int .i64 l, .int .i64 e]) ∧ Below W.heap.size W w')) (h3 : Hid (∀ W, Below w.heap.size w W → Calls Try.prog 36 #[.int .i64 a, .int .i64 b, .slice p n c] W (AllPost n1 L1 L2 g W))) (h4 : Hid (∀ W, Below w.heap.size w W → Calls Try.prog 37 #[.int .i64 a, .int .i64 b, .slice p n c] W (AllPost n1 L1 L2 g W))) (he : (e == 0) = false) : Calls Try.prog 7 #[.agg #[.int .i64 a, .int .i64 b, .int .i64 y, .int .i64 m, .int .i64 d, .slice p n c]] w (LawPost w) := by
  have hs := Lib.hid sane_any
  have HB := Lib.hid (Below.refl w.heap.size w)
  have bx := Lib.hid (Bk.newAt w #[.int .i64 a, .int .i64 b, .int .i64 y, .int .i64 m, .int .i64 d, .slice p n c] 43 (w.heap.size) (by simp))
  have HB := Lib.hid (kept_more (o := (.cells #[.int .i64 a, .int .i64 b, .int .i64 y, .int .i64 m, .int .i64 d, .slice p n c] 43)) HB.out)
  go_enter Try.func7, Try.ntmps7
  have bx_c0 := bx.out.cell 0
  have bx_c1 := bx.out.cell 1
  have bx_c2 := bx.out.cell 2
  have bx_c3 := bx.out.cell 3
  have bx_c4 := bx.out.cell 4
  have bx_c5 := bx.out.cell 5
  go_wp2_with fail
  refine (h1.out _).mono ?_
  rintro e w2 ⟨rfl, hb⟩
  have bx := Lib.hid (bx.out.next hb)
  have HB := Lib.hid (bel_next HB.out hb)
  clear bx_c0 bx_c1 bx_c2 bx_c3 bx_c4 bx_c5
  clear hb
  have bx := Lib.hid (bx.out.more (.cells #[.int .i64 0, .int .i64 0, .int .i64 0] 28))
  have ba := Lib.hid (Bk.newAt w2 #[.int .i64 0, .int .i64 0, .int .i64 0] 28 (w2.heap.size) (by simp))
  have HB := Lib.hid (kept_more (o := (.cells #[.int .i64 0, .int .i64 0, .int .i64 0] 28)) HB.out)
  have bx_c0 := bx.out.cell 0
  have bx_c1 := bx.out.cell 1
  have bx_c2 := bx.out.cell 2
  have bx_c3 := bx.out.cell 3
  have bx_c4 := bx.out.cell 4
  have bx_c5 := bx.out.cell 5
  go_wp2_with fail
  refine (h2.out _).mono ?_
  rintro e w3 ⟨rfl, hb⟩
  have bx := Lib.hid (bx.out.next hb)
  have ba := Lib.hid (ba.out.next hb)
  have HB := Lib.hid (bel_next HB.out hb)
  clear bx_c0 bx_c1 bx_c2 bx_c3 bx_c4 bx_c5
  clear hb
  have bx := Lib.hid (bx.out.more (.cells #[.int .i64 0, .int .i64 0, .int .i64 0] 28))
  have ba := Lib.hid (ba.out.more (.cells #[.int .i64 0, .int .i64 0, .int .i64 0] 28))
  have bb := Lib.hid (Bk.newAt w3 #[.int .i64 0, .int .i64 0, .int .i64 0] 28 (w3.heap.size) (by simp))
  have HB := Lib.hid (kept_more (o := (.cells #[.int .i64 0, .int .i64 0, .int .i64 0] 28)) HB.out)
  have bx_c0 := bx.out.cell 0
  have bx_c1 := bx.out.cell 1
  have bx_c2 := bx.out.cell 2
  have bx_c3 := bx.out.cell 3
  have bx_c4 := bx.out.cell 4
  have bx_c5 := bx.out.cell 5
  go_wp2_with fail
  refine (h3.out _ HB.out).mono ?_
  rintro e w4 ⟨p1, q1, c1, d1, rfl, hc1, hd1, hr1, hr2, hb⟩
  have R1 := Lib.hid hr1
  have R2 := Lib.hid hr2
  clear hr1 hr2
  have bx := Lib.hid (bx.out.next hb)
  have ba := Lib.hid (ba.out.next hb)
  have bb := Lib.hid (bb.out.next hb)
  have HB := Lib.hid (bel_next HB.out hb)
  clear bx_c0 bx_c1 bx_c2 bx_c3 bx_c4 bx_c5
  clear hb
  have bx_c0 := bx.out.cell 0
  have bx_c1 := bx.out.cell 1
  have bx_c2 := bx.out.cell 2
  have bx_c3 := bx.out.cell 3
  have bx_c4 := bx.out.cell 4
  have bx_c5 := bx.out.cell 5
  go_wp2_with fail
  refine (h4.out _ HB.out).mono ?_
  rintro e w5 ⟨p2, q2, c2, d2, rfl, hc2, hd2, hr1, hr2, hb⟩
  have R1 := Lib.hid (R1.out.below hb)
  have R2 := Lib.hid (R2.out.below hb)
  have R3 := Lib.hid hr1
  have R4 := Lib.hid hr2
  clear hr1 hr2
  have bx := Lib.hid (bx.out.next hb)
  have ba := Lib.hid (ba.out.next hb)
  have bb := Lib.hid (bb.out.next hb)
  have HB := Lib.hid (bel_next HB.out hb)
  clear bx_c0 bx_c1 bx_c2 bx_c3 bx_c4 bx_c5
  clear hb
  have hs1 := Lib.hid (fun W (hW : Below w5.heap.size w5 W) => same_any p1 p2 n1 c1 c2 L1 W hn1 hc1 hc2 (R1.out.below hW) (R3.out.below hW))
  have hs2 := Lib.hid (fun W (hW : Below w5.heap.size w5 W) => same_any q1 q2 n1 d1 d2 L2 W hn1 hd1 hd2 (R2.out.below hW) (R4.out.below hW))
  have HC := Lib.hid (Below.refl w5.heap.size w5)
  clear hc1 hc2 hd1 hd2
  have ba_c0 := ba.out.cell 0
  have ba_c1 := ba.out.cell 1
  have ba_c2 := ba.out.cell 2
  have bb_c0 := bb.out.cell 0
  have bb_c1 := bb.out.cell 1
  have bb_c2 := bb.out.cell 2
  go_wp2_with fail
  refine (hs1.out _ HC.out).mono ?_
  rintro e w6 ⟨rfl, hb⟩
  have HC := Lib.hid (bel_next HC.out hb)
  have bx := Lib.hid (bx.out.next hb)
  have ba := Lib.hid (ba.out.next hb)
  have bb := Lib.hid (bb.out.next hb)
  have HB := Lib.hid (bel_next HB.out hb)
  clear ba_c0 ba_c1 ba_c2 bb_c0 bb_c1 bb_c2
  clear hb
  have ba_c0 := ba.out.cell 0
  have ba_c1 := ba.out.cell 1
  have ba_c2 := ba.out.cell 2
  have bb_c0 := bb.out.cell 0
  have bb_c1 := bb.out.cell 1
  have bb_c2 := bb.out.cell 2
  go_wp2_with fail
  refine (hs2.out _ HC.out).mono ?_
  rintro e w7 ⟨rfl, hb⟩
  have HC := Lib.hid (bel_next HC.out hb)
  have bx := Lib.hid (bx.out.next hb)
  have ba := Lib.hid (ba.out.next hb)
  have bb := Lib.hid (bb.out.next hb)
  have HB := Lib.hid (bel_next HB.out hb)
  clear ba_c0 ba_c1 ba_c2 bb_c0 bb_c1 bb_c2
  clear hb
  have ba_c0 := ba.out.cell 0
  have ba_c1 := ba.out.cell 1
  have ba_c2 := ba.out.cell 2
  have bb_c0 := bb.out.cell 0
  have bb_c1 := bb.out.cell 1
  have bb_c2 := bb.out.cell 2
  go_wp2_with fail
  refine (hs.out _).mono ?_
  rintro e w8 ⟨rfl, hb⟩
  have bx := Lib.hid (bx.out.next hb)
  have ba := Lib.hid (ba.out.next hb)
  have bb := Lib.hid (bb.out.next hb)
  have HB := Lib.hid (bel_next HB.out hb)
  clear ba_c0 ba_c1 ba_c2 bb_c0 bb_c1 bb_c2
  clear hb
  go_wp2_with fail
  go_ret
  exact ⟨rfl, HB.out⟩

set_option maxRecDepth 100000 in
set_option maxHeartbeats 3200000 in
theorem maps_loss (a b y m d g l e : Int) (p : Option Addr) (n c n1 : Nat) (L1 L2 : List Int) (w : World) (hn : (n : Int) ≤ 200) (hn1 : n1 ≤ 1000) (h1 : Hid (∀ W, Calls Try.prog 34 #[.int .i64 a, .int .i64 b, .agg #[.int .i64 y, .int .i64 m, .int .i64 d]] W fun zz w' => zz = .returned (.tuple #[.agg #[.int .i64 0, .int .i64 0, .int .i64 0], .int .i64 l, .int .i64 e]) ∧ Below W.heap.size W w')) (h2 : Hid (∀ W, Calls Try.prog 35 #[.int .i64 a, .int .i64 b, .agg #[.int .i64 y, .int .i64 m, .int .i64 d]] W fun zz w' => zz = .returned (.tuple #[.agg #[.int .i64 0, .int .i64 0, .int .i64 0], .int .i64 l, .int .i64 e]) ∧ Below W.heap.size W w')) (h3 : Hid (∀ W, Below w.heap.size w W → Calls Try.prog 36 #[.int .i64 a, .int .i64 b, .slice p n c] W (AllPost n1 L1 L2 g W))) (h4 : Hid (∀ W, Below w.heap.size w W → Calls Try.prog 37 #[.int .i64 a, .int .i64 b, .slice p n c] W (AllPost n1 L1 L2 g W))) (he : (e == 0) = true) (hll : (l == 0) = false) : Calls Try.prog 7 #[.agg #[.int .i64 a, .int .i64 b, .int .i64 y, .int .i64 m, .int .i64 d, .slice p n c]] w (LawPost w) := by
  have hs := Lib.hid sane_any
  have HB := Lib.hid (Below.refl w.heap.size w)
  have bx := Lib.hid (Bk.newAt w #[.int .i64 a, .int .i64 b, .int .i64 y, .int .i64 m, .int .i64 d, .slice p n c] 43 (w.heap.size) (by simp))
  have HB := Lib.hid (kept_more (o := (.cells #[.int .i64 a, .int .i64 b, .int .i64 y, .int .i64 m, .int .i64 d, .slice p n c] 43)) HB.out)
  go_enter Try.func7, Try.ntmps7
  have bx_c0 := bx.out.cell 0
  have bx_c1 := bx.out.cell 1
  have bx_c2 := bx.out.cell 2
  have bx_c3 := bx.out.cell 3
  have bx_c4 := bx.out.cell 4
  have bx_c5 := bx.out.cell 5
  go_wp2_with fail
  refine (h1.out _).mono ?_
  rintro e w2 ⟨rfl, hb⟩
  have bx := Lib.hid (bx.out.next hb)
  have HB := Lib.hid (bel_next HB.out hb)
  clear bx_c0 bx_c1 bx_c2 bx_c3 bx_c4 bx_c5
  clear hb
  have bx := Lib.hid (bx.out.more (.cells #[.int .i64 0, .int .i64 0, .int .i64 0] 28))
  have ba := Lib.hid (Bk.newAt w2 #[.int .i64 0, .int .i64 0, .int .i64 0] 28 (w2.heap.size) (by simp))
  have HB := Lib.hid (kept_more (o := (.cells #[.int .i64 0, .int .i64 0, .int .i64 0] 28)) HB.out)
  have bx_c0 := bx.out.cell 0
  have bx_c1 := bx.out.cell 1
  have bx_c2 := bx.out.cell 2
  have bx_c3 := bx.out.cell 3
  have bx_c4 := bx.out.cell 4
  have bx_c5 := bx.out.cell 5
  go_wp2_with fail
  refine (h2.out _).mono ?_
  rintro e w3 ⟨rfl, hb⟩
  have bx := Lib.hid (bx.out.next hb)
  have ba := Lib.hid (ba.out.next hb)
  have HB := Lib.hid (bel_next HB.out hb)
  clear bx_c0 bx_c1 bx_c2 bx_c3 bx_c4 bx_c5
  clear hb
  have bx := Lib.hid (bx.out.more (.cells #[.int .i64 0, .int .i64 0, .int .i64 0] 28))
  have ba := Lib.hid (ba.out.more (.cells #[.int .i64 0, .int .i64 0, .int .i64 0] 28))
  have bb := Lib.hid (Bk.newAt w3 #[.int .i64 0, .int .i64 0, .int .i64 0] 28 (w3.heap.size) (by simp))
  have HB := Lib.hid (kept_more (o := (.cells #[.int .i64 0, .int .i64 0, .int .i64 0] 28)) HB.out)
  have bx_c0 := bx.out.cell 0
  have bx_c1 := bx.out.cell 1
  have bx_c2 := bx.out.cell 2
  have bx_c3 := bx.out.cell 3
  have bx_c4 := bx.out.cell 4
  have bx_c5 := bx.out.cell 5
  go_wp2_with fail
  refine (h3.out _ HB.out).mono ?_
  rintro e w4 ⟨p1, q1, c1, d1, rfl, hc1, hd1, hr1, hr2, hb⟩
  have R1 := Lib.hid hr1
  have R2 := Lib.hid hr2
  clear hr1 hr2
  have bx := Lib.hid (bx.out.next hb)
  have ba := Lib.hid (ba.out.next hb)
  have bb := Lib.hid (bb.out.next hb)
  have HB := Lib.hid (bel_next HB.out hb)
  clear bx_c0 bx_c1 bx_c2 bx_c3 bx_c4 bx_c5
  clear hb
  have bx_c0 := bx.out.cell 0
  have bx_c1 := bx.out.cell 1
  have bx_c2 := bx.out.cell 2
  have bx_c3 := bx.out.cell 3
  have bx_c4 := bx.out.cell 4
  have bx_c5 := bx.out.cell 5
  go_wp2_with fail
  refine (h4.out _ HB.out).mono ?_
  rintro e w5 ⟨p2, q2, c2, d2, rfl, hc2, hd2, hr1, hr2, hb⟩
  have R1 := Lib.hid (R1.out.below hb)
  have R2 := Lib.hid (R2.out.below hb)
  have R3 := Lib.hid hr1
  have R4 := Lib.hid hr2
  clear hr1 hr2
  have bx := Lib.hid (bx.out.next hb)
  have ba := Lib.hid (ba.out.next hb)
  have bb := Lib.hid (bb.out.next hb)
  have HB := Lib.hid (bel_next HB.out hb)
  clear bx_c0 bx_c1 bx_c2 bx_c3 bx_c4 bx_c5
  clear hb
  have hs1 := Lib.hid (fun W (hW : Below w5.heap.size w5 W) => same_any p1 p2 n1 c1 c2 L1 W hn1 hc1 hc2 (R1.out.below hW) (R3.out.below hW))
  have hs2 := Lib.hid (fun W (hW : Below w5.heap.size w5 W) => same_any q1 q2 n1 d1 d2 L2 W hn1 hd1 hd2 (R2.out.below hW) (R4.out.below hW))
  have HC := Lib.hid (Below.refl w5.heap.size w5)
  clear hc1 hc2 hd1 hd2
  have ba_c0 := ba.out.cell 0
  have ba_c1 := ba.out.cell 1
  have ba_c2 := ba.out.cell 2
  have bb_c0 := bb.out.cell 0
  have bb_c1 := bb.out.cell 1
  have bb_c2 := bb.out.cell 2
  go_wp2_with fail
  refine (hs1.out _ HC.out).mono ?_
  rintro e w6 ⟨rfl, hb⟩
  have HC := Lib.hid (bel_next HC.out hb)
  have bx := Lib.hid (bx.out.next hb)
  have ba := Lib.hid (ba.out.next hb)
  have bb := Lib.hid (bb.out.next hb)
  have HB := Lib.hid (bel_next HB.out hb)
  clear ba_c0 ba_c1 ba_c2 bb_c0 bb_c1 bb_c2
  clear hb
  have ba_c0 := ba.out.cell 0
  have ba_c1 := ba.out.cell 1
  have ba_c2 := ba.out.cell 2
  have bb_c0 := bb.out.cell 0
  have bb_c1 := bb.out.cell 1
  have bb_c2 := bb.out.cell 2
  go_wp2_with fail
  refine (hs2.out _ HC.out).mono ?_
  rintro e w7 ⟨rfl, hb⟩
  have HC := Lib.hid (bel_next HC.out hb)
  have bx := Lib.hid (bx.out.next hb)
  have ba := Lib.hid (ba.out.next hb)
  have bb := Lib.hid (bb.out.next hb)
  have HB := Lib.hid (bel_next HB.out hb)
  clear ba_c0 ba_c1 ba_c2 bb_c0 bb_c1 bb_c2
  clear hb
  have ba_c0 := ba.out.cell 0
  have ba_c1 := ba.out.cell 1
  have ba_c2 := ba.out.cell 2
  have bb_c0 := bb.out.cell 0
  have bb_c1 := bb.out.cell 1
  have bb_c2 := bb.out.cell 2
  go_wp2_with fail
  refine (hs.out _).mono ?_
  rintro e w8 ⟨rfl, hb⟩
  have bx := Lib.hid (bx.out.next hb)
  have ba := Lib.hid (ba.out.next hb)
  have bb := Lib.hid (bb.out.next hb)
  have HB := Lib.hid (bel_next HB.out hb)
  clear ba_c0 ba_c1 ba_c2 bb_c0 bb_c1 bb_c2
  clear hb
  go_wp2_with fail
  go_ret
  exact ⟨rfl, HB.out⟩

theorem maps_any (a b y m d : Int) (p : Option Addr) (n c : Nat) (l : List Int) (w : World) (hnc : n ≤ c) (hl : Rd w p n l) : Calls Try.prog 7 #[.agg #[.int .i64 a, .int .i64 b, .int .i64 y, .int .i64 m, .int .i64 d, .slice p n c]] w (LawPost w) := by
  by_cases hn : n ≤ 200
  · obtain ⟨n1, L1, L2, g, hn1, h3, h4⟩ := maps_pair a b p n c l w (by omega) hnc hl
    rcases map_pair a b y m d with ⟨⟨h1, h2⟩, h6⟩ | ⟨lo, e, he, h1, h2⟩
    · exact maps_back a b y m d g p n c n1 L1 L2 w (by omega) hn1 h1 h2 h3 h4 h6
    · cases hee : e == 0 with
      | false => exact maps_err a b y m d g lo e p n c n1 L1 L2 w (by omega) hn1 h1 h2 h3 h4 hee
      | true => exact maps_loss a b y m d g lo e p n c n1 L1 L2 w (by omega) hn1 h1 h2 h3 h4 hee (he.resolve_left (by rw [hee]; decide))
  · exact maps_big a b y m d p n c w (by omega)
end Go.Proofs.Ythpeaeepcbbfcaa
