/- Find of the document; the law CalendarNames. -/
import Derived.Test.YthpeaeepcbbfcaaAN
namespace Go.Proofs.Ythpeaeepcbbfcaa
open Go.RowKit Go.Maps

theorem findN_zero {s : ByteArray} (h : ∀ k : Int, 1 ≤ k → k < 6 → nameOf k ≠ s) : findN s.data.toList = 0 := by
  by_cases h0 : findN s.data.toList = 0
  · exact h0
  · obtain ⟨i1, i2⟩ := findN_some _ h0
    exact absurd (bytes_eq i2).symm (h _ i1.1 (by have := i1.2; omega))
theorem ne_lists {a b : ByteArray} (h : ¬ a = b) : (a.toList == b.toList) = false := by
  rw [beq_eq_false_iff_ne, Lib.toList_data, Lib.toList_data]; exact fun e => h (bytes_eq e)

set_option maxRecDepth 100000 in
set_option maxHeartbeats 1600000 in
theorem rfind_any (s : ByteArray) (w : World) : Calls Try.prog 16 #[.string s] w fun e w' => e = .returned (.tuple #[.int .i64 (findN s.data.toList), .bool (!decide (findN s.data.toList = 0))]) ∧ Below w.heap.size w w' := by
  have hn := Lib.hid (fun c W h => rname_ok c W h)
  go_enter Try.func16, Try.ntmps16
  go_wp2_with fail
  go_loopw [4] (fun i wr => ∃ j : Int, 1 ≤ j ∧ j ≤ 6 ∧ i = .int .i64 j ∧ Hid (∀ k : Int, 1 ≤ k → k < j → nameOf k ≠ s) ∧ Hid (Below w.heap.size w wr)) (fun i _ => (6 - intOf i).toNat)
  case atStart => exact ⟨1, by omega, by omega, rfl, Lib.hid (fun k h1 h2 => by omega), Lib.hid (Below.refl _ _)⟩
  case round =>
    obtain ⟨j, j0, j1, rfl, hall, hB⟩ := hrel
    by_cases hlt : j ≤ 5
    · obtain ⟨nm, hnm⟩ : ∃ nm, Hid (nameOf j = nm) := ⟨_, Lib.hid rfl⟩
      have hc := Lib.hid (fun W => hn.out j W ⟨j0, hlt⟩)
      rw [hnm.out] at hc
      by_cases he : nm = s
      · subst he
        have hf := Lib.hid (show findN nm.data.toList = j by rw [← hnm.out]; exact findN_name j ⟨j0, hlt⟩)
        go_wp2_with fail
        refine (hc.out _).mono ?_
        rintro e w2 ⟨rfl, hb⟩
        have hB2 := Lib.hid (hB.out.trans (hb.mono hB.out.size))
        clear hb
        go_wp2_with fail
        go_ret2
        exact ⟨by rw [hf.out, show (!decide (j = 0)) = true by simp; omega]; rfl, hB2.out⟩
      · have h1 := ne_lists he
        have hall2 := Lib.hid (show ∀ k : Int, 1 ≤ k → k < j + 1 → nameOf k ≠ s from fun k k0 k1 => by
          by_cases hk : k = j
          · subst hk; rw [hnm.out]; exact he
          · exact hall.out k k0 (by omega))
        clear he
        go_wp2_with fail
        refine (hc.out _).mono ?_
        rintro e w2 ⟨rfl, hb⟩
        have hB2 := Lib.hid (hB.out.trans (hb.mono hB.out.size))
        clear hb
        go_wp2_with fail
        go_roundw
        case rel => exact ⟨j + 1, by omega, by omega, rfl, hall2, hB2⟩
        case measure => simp [intOf]; omega
    · obtain rfl : j = 6 := by omega
      have hf := Lib.hid (findN_zero hall.out)
      go_wp2_with fail
      go_ret2
      exact ⟨by rw [hf.out]; rfl, hB.out⟩

theorem rname_all (c : Int) (w : World) : Calls Try.prog 18 #[.int .i64 c] w fun e w' => e = .returned (.string (nameOf c)) ∧ Below w.heap.size w w' := by
  by_cases h : isCal c
  · exact rname_ok c w h
  · rw [nameOf_no h]; exact rname_no c w h

set_option maxRecDepth 100000 in
set_option maxHeartbeats 3200000 in
theorem names_walk (c v : Int) (u : Bool) (s nm : ByteArray) (w : World) (a1 : Hid (∀ W, Calls Try.prog 15 #[.string s] W fun e w' => e = .returned (.tuple #[.int .i64 v, .bool u]) ∧ Below W.heap.size W w')) (a2 : Hid (∀ W, Calls Try.prog 16 #[.string s] W fun e w' => e = .returned (.tuple #[.int .i64 v, .bool u]) ∧ Below W.heap.size W w')) (b1 : Hid (∀ W, Calls Try.prog 17 #[.int .i64 c] W fun e w' => e = .returned (.string nm) ∧ Below W.heap.size W w')) (b2 : Hid (∀ W, Calls Try.prog 18 #[.int .i64 c] W fun e w' => e = .returned (.string nm) ∧ Below W.heap.size W w')) : Calls Try.prog 3 #[.int .i64 c, .string s] w (LawPost w) := by
  have hs := Lib.hid sane_any
  have HB := Lib.hid (Below.refl w.heap.size w)
  go_enter Try.func3, Try.ntmps3
  go_wp2_with fail
  refine (a1.out _).mono ?_
  rintro e w2 ⟨rfl, hb⟩
  have HB := Lib.hid (bel_next HB.out hb)
  clear hb
  go_wp2_with fail
  refine (a2.out _).mono ?_
  rintro e w3 ⟨rfl, hb⟩
  have HB := Lib.hid (bel_next HB.out hb)
  clear hb
  go_wp2_with fail
  refine (b1.out _).mono ?_
  rintro e w4 ⟨rfl, hb⟩
  have HB := Lib.hid (bel_next HB.out hb)
  clear hb
  go_wp2_with fail
  refine (b2.out _).mono ?_
  rintro e w5 ⟨rfl, hb⟩
  have HB := Lib.hid (bel_next HB.out hb)
  clear hb
  go_wp2_with fail
  refine (hs.out _).mono ?_
  rintro e w6 ⟨rfl, hb⟩
  have HB := Lib.hid (bel_next HB.out hb)
  clear hb
  go_wp2_with fail
  go_ret
  exact ⟨rfl, HB.out⟩

theorem names_any (c : Int) (s : ByteArray) (w : World) (hs : s.size ≤ maxLen) : Calls Try.prog 3 #[.int .i64 c, .string s] w (LawPost w) :=
  names_walk c _ _ s _ w (Lib.hid fun W => find_any s W hs) (Lib.hid fun W => rfind_any s W) (Lib.hid fun W => name_any c W) (Lib.hid fun W => rname_all c W)
end Go.Proofs.Ythpeaeepcbbfcaa
