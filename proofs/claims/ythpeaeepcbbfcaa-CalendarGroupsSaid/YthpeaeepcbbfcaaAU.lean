/- The document's MapAll. -/
import Derived.Test.YthpeaeepcbbfcaaAT
namespace Go.Proofs.Ythpeaeepcbbfcaa
open Go.RowKit

set_option maxRecDepth 100000 in
set_option maxHeartbeats 3200000 in
theorem rmapall_n (a b : Int) (p : Option Addr) (n c : Nat) (w : World) (ha : ¬ isCal a) : Calls Try.prog 37 #[.int .i64 a, .int .i64 b, .slice p n c] w fun z w' => z = .returned (.tuple #[.slice none 0 0, .slice none 0 0, .int .i64 20]) ∧ Below w.heap.size w w' := by
  have h1 := Lib.hid (fun W => rname_no a W ha)
  clear ha
  have HB := Lib.hid (Below.refl w.heap.size w)
  go_enter Try.func37, Try.ntmps37
  go_wp2_with fail
  refine (h1.out _).mono ?_
  rintro e w2 ⟨rfl, hb⟩
  have HB := Lib.hid (bel_next HB.out hb)
  clear hb
  go_wp2_with fail
  go_ret3
  exact ⟨rfl, HB.out⟩

set_option maxRecDepth 100000 in
set_option maxHeartbeats 3200000 in
theorem rmapall_yn (a b : Int) (p : Option Addr) (n c : Nat) (w : World) (ha : isCal a) (hb0 : ¬ isCal b) : Calls Try.prog 37 #[.int .i64 a, .int .i64 b, .slice p n c] w fun z w' => z = .returned (.tuple #[.slice none 0 0, .slice none 0 0, .int .i64 20]) ∧ Below w.heap.size w w' := by
  obtain ⟨nm, hnm, hn'⟩ := rname_any a ha
  obtain ⟨e1, e2⟩ := hnm
  have h1 := Lib.hid hn'
  clear hn'
  have h2 := Lib.hid (fun W => rname_no b W hb0)
  clear hb0
  have HB := Lib.hid (Below.refl w.heap.size w)
  go_enter Try.func37, Try.ntmps37
  go_wp2_with fail
  refine (h1.out _).mono ?_
  rintro e w2 ⟨rfl, hb⟩
  have HB := Lib.hid (bel_next HB.out hb)
  clear hb
  go_wp2_with fail
  refine (h2.out _).mono ?_
  rintro e w3 ⟨rfl, hb⟩
  have HB := Lib.hid (bel_next HB.out hb)
  clear hb
  go_wp2_with fail
  go_ret3
  exact ⟨rfl, HB.out⟩

theorem done_step {a b : Int} {k : Nat} {l L1 L2 : List Int} {v e : Int} (h1 : L1.length = k) (h2 : L2.length = k) (h : ∀ i, i < k → MapAt a b (l.getD i 0) (L1.getD i 0) (L2.getD i 0)) (hm : MapAt a b (l.getD k 0) v e) : ∀ i, i < k + 1 → MapAt a b (l.getD i 0) ((L1 ++ [v]).getD i 0) ((L2 ++ [e]).getD i 0) := by
  intro i hi
  by_cases hik : i = k
  · subst hik
    rw [List.getD_eq_getElem?_getD (l := L1 ++ [v]), List.getD_eq_getElem?_getD (l := L2 ++ [e]), List.getElem?_append_right (by omega), List.getElem?_append_right (by omega), h1, h2, Nat.sub_self]
    exact hm
  · rw [List.getD_eq_getElem?_getD (l := L1 ++ [v]), List.getD_eq_getElem?_getD (l := L2 ++ [e]), List.getElem?_append_left (by omega), List.getElem?_append_left (by omega), ← List.getD_eq_getElem?_getD, ← List.getD_eq_getElem?_getD]
    exact h i (by omega)
theorem Ow.lens {v1 v2 : Value} {k1 k2 : Nat} {L1 L2 : List Int} {w0 W : World} (h : Ow v1 v2 k1 k2 L1 L2 w0 W) : L1.length = k1 ∧ L2.length = k2 := ⟨by have := h.o1.1; simpa using this, by have := h.o2.1; simpa using this⟩

set_option maxRecDepth 100000 in
set_option maxHeartbeats 3200000 in
theorem rmapall_ok (a b : Int) (p : Option Addr) (n c : Nat) (l : List Int) (w : World) (hn : n ≤ 1000) (hnc : n ≤ c) (hl : Rd w p n l) (ha : isCal a) (hb0 : isCal b) (hd : ∀ i, i < n → IsDay a (l.getD i 0)) : Calls Try.prog 37 #[.int .i64 a, .int .i64 b, .slice p n c] w (MapsTo a b n l w) := by
  obtain ⟨nm, hnm, hn'⟩ := rname_any a ha
  obtain ⟨e1, e2⟩ := hnm
  have h1 := Lib.hid hn'
  clear hn'
  obtain ⟨nm2, hnm2, hn2'⟩ := rname_any b hb0
  obtain ⟨e3, e4⟩ := hnm2
  have h2 := Lib.hid hn2'
  clear hn2'
  have HB := Lib.hid (Below.refl w.heap.size w)
  go_enter Try.func37, Try.ntmps37
  go_wp2_with fail
  refine (h1.out _).mono ?_
  rintro e w2 ⟨rfl, hb⟩
  have HB := Lib.hid (bel_next HB.out hb)
  clear hb
  go_wp2_with fail
  refine (h2.out _).mono ?_
  rintro e w3 ⟨rfl, hb⟩
  have HB := Lib.hid (bel_next HB.out hb)
  clear hb
  have HL := Lib.hid hl
  have HD := Lib.hid hd
  clear hl hd
  go_wp2_with fail
  go_loopw [9, 10, 11] (fun v1 v2 i wr => ∃ (k : Nat) (L1 L2 : List Int), k ≤ n ∧ i = .int .i64 k ∧ Hid (Ow v1 v2 k k L1 L2 w wr) ∧ Hid (∀ i, i < k → MapAt a b (l.getD i 0) (L1.getD i 0) (L2.getD i 0))) (fun _ _ i _ => n - (intOf i).toNat)
  case atStart => exact ⟨0, [], [], Nat.zero_le _, rfl, Lib.hid (Ow.start HB.out), Lib.hid (fun i hi => absurd hi (Nat.not_lt_zero i))⟩
  case round =>
    obtain ⟨k, L1, L2, hk, rfl, hO, hDn⟩ := hrel
    by_cases hlt : k < n
    · obtain ⟨bb, off, v, rfl, hbl, hcell, hv⟩ := (HL.out.below hO.out.below).at hlt
      have hday := HD.out k hlt
      rw [hv.out] at hday
      obtain ⟨y, m, d, hok, hnum⟩ := date_exists a v hday.1 hday.2
      have hdate := Lib.hid (fun W => rdate_at W ha hok hnum)
      have Hok := Lib.hid hok
      have Hnum := Lib.hid hnum
      clear hday hok hnum hbl
      go_wp2_with fail
      refine (hdate.out _).mono ?_
      rintro e w5 ⟨rfl, hb⟩
      have hO5 := Lib.hid ((hO.out.next hb).next (below_alloc w5 (.cells #[.int .i64 y, .int .i64 m, .int .i64 d] 28)))
      have bd := Lib.hid (Bk.new w5 #[.int .i64 y, .int .i64 m, .int .i64 d] 28)
      clear hb hcell
      have d0 := bd.out.cell 0
      have d1 := bd.out.cell 1
      have d2 := bd.out.cell 2
      have hv2 := Lib.hid (fun W => rValid_any b y m d W)
      rw [validV_eq hb0] at hv2
      cases hu : ok b y m d with
      | true =>
        rw [hu] at hv2
        have hnb := Lib.hid (fun W => rnumber_any b y m d W hb0 ((ok_of hu).1 rfl))
        have hat := Lib.hid (show MapAt a b (l.getD k 0) (num b y m d) 0 from ⟨y, m, d, Hok.out, by rw [hv.out]; exact Hnum.out, .inl ⟨(ok_of hu).1 rfl, rfl, rfl⟩⟩)
        clear hu
        generalize num b y m d = nb at *
        go_wp2_with fail
        refine (hv2.out _).mono ?_
        rintro e w6 ⟨rfl, hb⟩
        have hO6 := Lib.hid (hO5.out.next hb)
        have bd := Lib.hid (bd.out.next hb)
        clear hb d0 d1 d2
        have d0 := bd.out.cell 0
        have d1 := bd.out.cell 1
        have d2 := bd.out.cell 2
        go_wp2_with fail
        refine (hnb.out _).mono ?_
        rintro e w7 ⟨rfl, hb⟩
        have hO7 := Lib.hid (hO6.out.next hb)
        clear hb d0 d1 d2
        have hO8 := Lib.hid (hO7.out.next (below_alloc w7 (.cells #[.int .i64 nb] 3)))
        have hcn := (Bk.new w7 #[.int .i64 nb] 3).cell 0
        go_wp2_with (at_builtin; refine wpList_append_at _ (o := ⟨some 50, _, _, _, _, _⟩) rfl (.tmp 47) (.tmp 49) rfl w.heap.size _ k _ rfl hO8.out.o1 ⟨w7.heap.size, 0, none⟩ 1 rfl nb hcn (by omega) hO8.out.below.size ?_)
        intro v1 w9 g1 g2 g3
        have hO9 := Lib.hid (hO8.out.app1 g1 g2 (by simpa using g3))
        have hO10 := Lib.hid (hO9.out.next (below_alloc w9 (.cells #[.int .i64 0] 3)))
        clear g1 g2 g3 hcn
        have hcn := (Bk.new w9 #[.int .i64 0] 3).cell 0
        go_wp2_with (at_builtin; refine wpList_append_at _ (o := ⟨some 54, _, _, _, _, _⟩) rfl (.tmp 51) (.tmp 53) rfl w.heap.size _ k _ rfl hO10.out.o2 ⟨w9.heap.size, 0, none⟩ 1 rfl 0 hcn (by omega) hO10.out.below.size ?_)
        intro v2 w11 g1 g2 g3
        have hO11 := Lib.hid (hO10.out.flip.app1 g1 g2 (by simpa using g3)).flip
        clear g1 g2 g3 hcn
        have hDe := Lib.hid (done_step hO.out.lens.1 hO.out.lens.2 hDn.out hat.out)
        go_wp2_with fail
        go_roundw
        case rel => exact ⟨k + 1, _, _, by omega, by go_num, hO11, hDe⟩
        case measure => simp [intOf]; omega
      | false =>
        rw [hu] at hv2
        have hat := Lib.hid (show MapAt a b (l.getD k 0) 0 1 from ⟨y, m, d, Hok.out, by rw [hv.out]; exact Hnum.out, .inr ⟨(ok_of hu).2 rfl, rfl, rfl⟩⟩)
        clear hu
        go_wp2_with fail
        refine (hv2.out _).mono ?_
        rintro e w7 ⟨rfl, hb⟩
        have hO7 := Lib.hid (hO5.out.next hb)
        clear hb d0 d1 d2
        have hO8 := Lib.hid (hO7.out.next (below_alloc w7 (.cells #[.int .i64 0] 3)))
        have hcn := (Bk.new w7 #[.int .i64 0] 3).cell 0
        go_wp2_with (at_builtin; refine wpList_append_at _ (o := ⟨some 50, _, _, _, _, _⟩) rfl (.tmp 47) (.tmp 49) rfl w.heap.size _ k _ rfl hO8.out.o1 ⟨w7.heap.size, 0, none⟩ 1 rfl 0 hcn (by omega) hO8.out.below.size ?_)
        intro v1 w9 g1 g2 g3
        have hO9 := Lib.hid (hO8.out.app1 g1 g2 (by simpa using g3))
        have hO10 := Lib.hid (hO9.out.next (below_alloc w9 (.cells #[.int .i64 1] 3)))
        clear g1 g2 g3 hcn
        have hcn := (Bk.new w9 #[.int .i64 1] 3).cell 0
        go_wp2_with (at_builtin; refine wpList_append_at _ (o := ⟨some 54, _, _, _, _, _⟩) rfl (.tmp 51) (.tmp 53) rfl w.heap.size _ k _ rfl hO10.out.o2 ⟨w9.heap.size, 0, none⟩ 1 rfl 1 hcn (by omega) hO10.out.below.size ?_)
        intro v2 w11 g1 g2 g3
        have hO11 := Lib.hid (hO10.out.flip.app1 g1 g2 (by simpa using g3)).flip
        clear g1 g2 g3 hcn
        have hDe := Lib.hid (done_step hO.out.lens.1 hO.out.lens.2 hDn.out hat.out)
        go_wp2_with fail
        go_roundw
        case rel => exact ⟨k + 1, _, _, by omega, by go_num, hO11, hDe⟩
        case measure => simp [intOf]; omega
    · obtain rfl : k = n := by omega
      go_wp2_with fail
      go_ret3
      obtain ⟨q1, c1, rfl, hc1, hr1⟩ := owns_form hO.out.o1
      obtain ⟨q2, c2, rfl, hc2, hr2⟩ := owns_form hO.out.o2
      exact ⟨hO.out.below, _, _, _, _, _, _, rfl, hc1, hc2, hr1, hr2, hDn.out⟩

set_option maxRecDepth 100000 in
set_option maxHeartbeats 3200000 in
theorem rmapall_bad (a b : Int) (p : Option Addr) (n c : Nat) (l : List Int) (w : World) (hn : n ≤ 1000) (hnc : n ≤ c) (hl : Rd w p n l) (ha : isCal a) (hb0 : isCal b) (hd : ∃ i, i < n ∧ ¬ IsDay a (l.getD i 0)) : Calls Try.prog 37 #[.int .i64 a, .int .i64 b, .slice p n c] w fun z w' => z = .returned (.tuple #[.slice none 0 0, .slice none 0 0, .int .i64 21]) ∧ Below w.heap.size w w' := by
  obtain ⟨nm, hnm, hn'⟩ := rname_any a ha
  obtain ⟨e1, e2⟩ := hnm
  have h1 := Lib.hid hn'
  clear hn'
  obtain ⟨nm2, hnm2, hn2'⟩ := rname_any b hb0
  obtain ⟨e3, e4⟩ := hnm2
  have h2 := Lib.hid hn2'
  clear hn2'
  have HB := Lib.hid (Below.refl w.heap.size w)
  go_enter Try.func37, Try.ntmps37
  go_wp2_with fail
  refine (h1.out _).mono ?_
  rintro e w2 ⟨rfl, hb⟩
  have HB := Lib.hid (bel_next HB.out hb)
  clear hb
  go_wp2_with fail
  refine (h2.out _).mono ?_
  rintro e w3 ⟨rfl, hb⟩
  have HB := Lib.hid (bel_next HB.out hb)
  clear hb
  have HL := Lib.hid hl
  have HD := Lib.hid hd
  clear hl hd
  go_wp2_with fail
  go_loopw [9, 10, 11] (fun v1 v2 i wr => ∃ (k : Nat) (L1 L2 : List Int), k ≤ n ∧ i = .int .i64 k ∧ Hid (Ow v1 v2 k k L1 L2 w wr) ∧ Hid (∀ i, i < k → IsDay a (l.getD i 0))) (fun _ _ i _ => n - (intOf i).toNat)
  case atStart => exact ⟨0, [], [], Nat.zero_le _, rfl, Lib.hid (Ow.start HB.out), Lib.hid (fun i hi => absurd hi (Nat.not_lt_zero i))⟩
  case round =>
    obtain ⟨k, L1, L2, hk, rfl, hO, hDn⟩ := hrel
    by_cases hlt : k < n
    · obtain ⟨bb, off, v, rfl, hbl, hcell, hv⟩ := (HL.out.below hO.out.below).at hlt
      by_cases hday : IsDay a v
      case neg =>
        have hdate := Lib.hid (fun W => rdate_bad W ha hday)
        clear hday hbl
        go_wp2_with fail
        refine (hdate.out _).mono ?_
        rintro e w5 ⟨rfl, hb⟩
        have HB5 := Lib.hid (kept_more (o := .cells #[.int .i64 0, .int .i64 0, .int .i64 0] 28) (bel_next hO.out.below hb))
        clear hb hcell
        go_wp2_with fail
        go_ret3
        exact ⟨rfl, HB5.out⟩
      have hDe := Lib.hid (show ∀ i, i < k + 1 → IsDay a (l.getD i 0) from fun i hi => by
        by_cases hik : i = k
        · subst hik; rw [hv.out]; exact hday
        · exact hDn.out i (by omega))
      obtain ⟨y, m, d, hok, hnum⟩ := date_exists a v hday.1 hday.2
      have hdate := Lib.hid (fun W => rdate_at W ha hok hnum)
      have Hok := Lib.hid hok
      have Hnum := Lib.hid hnum
      clear hday hok hnum hbl
      go_wp2_with fail
      refine (hdate.out _).mono ?_
      rintro e w5 ⟨rfl, hb⟩
      have hO5 := Lib.hid ((hO.out.next hb).next (below_alloc w5 (.cells #[.int .i64 y, .int .i64 m, .int .i64 d] 28)))
      have bd := Lib.hid (Bk.new w5 #[.int .i64 y, .int .i64 m, .int .i64 d] 28)
      clear hb hcell
      have d0 := bd.out.cell 0
      have d1 := bd.out.cell 1
      have d2 := bd.out.cell 2
      have hv2 := Lib.hid (fun W => rValid_any b y m d W)
      rw [validV_eq hb0] at hv2
      cases hu : ok b y m d with
      | true =>
        rw [hu] at hv2
        have hnb := Lib.hid (fun W => rnumber_any b y m d W hb0 ((ok_of hu).1 rfl))
        clear hu
        generalize num b y m d = nb at *
        go_wp2_with fail
        refine (hv2.out _).mono ?_
        rintro e w6 ⟨rfl, hb⟩
        have hO6 := Lib.hid (hO5.out.next hb)
        have bd := Lib.hid (bd.out.next hb)
        clear hb d0 d1 d2
        have d0 := bd.out.cell 0
        have d1 := bd.out.cell 1
        have d2 := bd.out.cell 2
        go_wp2_with fail
        refine (hnb.out _).mono ?_
        rintro e w7 ⟨rfl, hb⟩
        have hO7 := Lib.hid (hO6.out.next hb)
        clear hb d0 d1 d2
        have hO8 := Lib.hid (hO7.out.next (below_alloc w7 (.cells #[.int .i64 nb] 3)))
        have hcn := (Bk.new w7 #[.int .i64 nb] 3).cell 0
        go_wp2_with (at_builtin; refine wpList_append_at _ (o := ⟨some 50, _, _, _, _, _⟩) rfl (.tmp 47) (.tmp 49) rfl w.heap.size _ k _ rfl hO8.out.o1 ⟨w7.heap.size, 0, none⟩ 1 rfl nb hcn (by omega) hO8.out.below.size ?_)
        intro v1 w9 g1 g2 g3
        have hO9 := Lib.hid (hO8.out.app1 g1 g2 (by simpa using g3))
        have hO10 := Lib.hid (hO9.out.next (below_alloc w9 (.cells #[.int .i64 0] 3)))
        clear g1 g2 g3 hcn
        have hcn := (Bk.new w9 #[.int .i64 0] 3).cell 0
        go_wp2_with (at_builtin; refine wpList_append_at _ (o := ⟨some 54, _, _, _, _, _⟩) rfl (.tmp 51) (.tmp 53) rfl w.heap.size _ k _ rfl hO10.out.o2 ⟨w9.heap.size, 0, none⟩ 1 rfl 0 hcn (by omega) hO10.out.below.size ?_)
        intro v2 w11 g1 g2 g3
        have hO11 := Lib.hid (hO10.out.flip.app1 g1 g2 (by simpa using g3)).flip
        clear g1 g2 g3 hcn
        skip
        go_wp2_with fail
        go_roundw
        case rel => exact ⟨k + 1, _, _, by omega, by go_num, hO11, hDe⟩
        case measure => simp [intOf]; omega
      | false =>
        rw [hu] at hv2
        clear hu
        go_wp2_with fail
        refine (hv2.out _).mono ?_
        rintro e w7 ⟨rfl, hb⟩
        have hO7 := Lib.hid (hO5.out.next hb)
        clear hb d0 d1 d2
        have hO8 := Lib.hid (hO7.out.next (below_alloc w7 (.cells #[.int .i64 0] 3)))
        have hcn := (Bk.new w7 #[.int .i64 0] 3).cell 0
        go_wp2_with (at_builtin; refine wpList_append_at _ (o := ⟨some 50, _, _, _, _, _⟩) rfl (.tmp 47) (.tmp 49) rfl w.heap.size _ k _ rfl hO8.out.o1 ⟨w7.heap.size, 0, none⟩ 1 rfl 0 hcn (by omega) hO8.out.below.size ?_)
        intro v1 w9 g1 g2 g3
        have hO9 := Lib.hid (hO8.out.app1 g1 g2 (by simpa using g3))
        have hO10 := Lib.hid (hO9.out.next (below_alloc w9 (.cells #[.int .i64 1] 3)))
        clear g1 g2 g3 hcn
        have hcn := (Bk.new w9 #[.int .i64 1] 3).cell 0
        go_wp2_with (at_builtin; refine wpList_append_at _ (o := ⟨some 54, _, _, _, _, _⟩) rfl (.tmp 51) (.tmp 53) rfl w.heap.size _ k _ rfl hO10.out.o2 ⟨w9.heap.size, 0, none⟩ 1 rfl 1 hcn (by omega) hO10.out.below.size ?_)
        intro v2 w11 g1 g2 g3
        have hO11 := Lib.hid (hO10.out.flip.app1 g1 g2 (by simpa using g3)).flip
        clear g1 g2 g3 hcn
        skip
        go_wp2_with fail
        go_roundw
        case rel => exact ⟨k + 1, _, _, by omega, by go_num, hO11, hDe⟩
        case measure => simp [intOf]; omega
    · obtain rfl : k = n := by omega
      go_wp2_with fail
      go_ret3
      obtain ⟨i, hi, hni⟩ := HD.out
      exact absurd (hDn.out i hi) hni
end Go.Proofs.Ythpeaeepcbbfcaa
