/- Both Groups where the calendar or the field is none. -/
import Derived.Test.YthpeaeepcbbfcaaAY
namespace Go.Proofs.Ythpeaeepcbbfcaa
open Go.RowKit

set_option maxRecDepth 100000 in
set_option maxHeartbeats 3200000 in
theorem groups_nocal (cal fld : Int) (cyc : Bool) (p : Option Addr) (n c : Nat) (w : World) (ha : ¬ isCal cal) : Calls Try.prog 43 #[.int .i64 cal, .slice p n c, .int .i64 fld, .bool cyc] w fun z w' => z = .returned (.tuple #[.slice none 0 0, .slice none 0 0, .int .i64 20]) ∧ Below w.heap.size w w' := by
  have h1 := Lib.hid (fun W => rulesFor_nocal cal fld W ha)
  clear ha
  have HB := Lib.hid (Below.refl w.heap.size w)
  go_enter Try.func43, Try.ntmps43
  go_wp2_with fail
  refine (h1.out _).mono ?_
  rintro e w2 ⟨rfl, hb⟩
  have HB := Lib.hid (bel_next HB.out hb)
  clear hb
  have HB := Lib.hid (kept_more (o := (.cells #[.int .i64 0, .int .i64 0, .int .i64 0, .int .i64 0, .int .i64 0, .int .i64 0, .int .i64 0, .int .i64 0, .int .i64 0, .int .i64 0, .int .i64 0, .int .i64 0, .nilFunc] 68)) HB.out)
  go_wp2_with fail
  go_ret3
  exact ⟨rfl, HB.out⟩

set_option maxRecDepth 100000 in
set_option maxHeartbeats 3200000 in
theorem groups_nofield (cal fld : Int) (cyc : Bool) (p : Option Addr) (n c : Nat) (w : World) (ha : isCal cal) (t1 : (fld == 1) = false) (t2 : (fld == 2) = false) (t3 : (fld == 3) = false) (t4 : (fld == 4) = false) : Calls Try.prog 43 #[.int .i64 cal, .slice p n c, .int .i64 fld, .bool cyc] w fun z w' => z = .returned (.tuple #[.slice none 0 0, .slice none 0 0, .int .i64 22]) ∧ Below w.heap.size w w' := by
  have h1 := Lib.hid (fun W => rulesFor_nofield cal fld W ha t1 t2 t3 t4)
  clear ha t1 t2 t3 t4
  have HB := Lib.hid (Below.refl w.heap.size w)
  go_enter Try.func43, Try.ntmps43
  go_wp2_with fail
  refine (h1.out _).mono ?_
  rintro e w2 ⟨rfl, hb⟩
  have HB := Lib.hid (bel_next HB.out hb)
  clear hb
  have HB := Lib.hid (kept_more (o := (.cells #[.int .i64 0, .int .i64 0, .int .i64 0, .int .i64 0, .int .i64 0, .int .i64 0, .int .i64 0, .int .i64 0, .int .i64 0, .int .i64 0, .int .i64 0, .int .i64 0, .nilFunc] 68)) HB.out)
  go_wp2_with fail
  go_ret3
  exact ⟨rfl, HB.out⟩

set_option maxRecDepth 100000 in
set_option maxHeartbeats 3200000 in
theorem rgroups_nocal (cal fld : Int) (cyc : Bool) (p : Option Addr) (n c : Nat) (w : World) (ha : ¬ isCal cal) : Calls Try.prog 44 #[.int .i64 cal, .slice p n c, .int .i64 fld, .bool cyc] w fun z w' => z = .returned (.tuple #[.slice none 0 0, .slice none 0 0, .int .i64 20]) ∧ Below w.heap.size w w' := by
  have h1 := Lib.hid (fun W => rname_no cal W ha)
  clear ha
  have HB := Lib.hid (Below.refl w.heap.size w)
  go_enter Try.func44, Try.ntmps44
  go_wp2_with fail
  refine (h1.out _).mono ?_
  rintro e w2 ⟨rfl, hb⟩
  have HB := Lib.hid (bel_next HB.out hb)
  clear hb
  go_wp2_with fail
  go_ret3
  exact ⟨rfl, HB.out⟩

set_option maxRecDepth 100000 in
set_option maxHeartbeats 3200000 in
theorem rgroups_low (cal fld : Int) (cyc : Bool) (p : Option Addr) (n c : Nat) (w : World) (ha : isCal cal) (hf : fld < 1) : Calls Try.prog 44 #[.int .i64 cal, .slice p n c, .int .i64 fld, .bool cyc] w fun z w' => z = .returned (.tuple #[.slice none 0 0, .slice none 0 0, .int .i64 22]) ∧ Below w.heap.size w w' := by
  obtain ⟨nm, hnm, hn'⟩ := rname_any cal ha
  obtain ⟨e1, e2⟩ := hnm
  have h1 := Lib.hid hn'
  clear hn' ha
  have HB := Lib.hid (Below.refl w.heap.size w)
  go_enter Try.func44, Try.ntmps44
  go_wp2_with fail
  refine (h1.out _).mono ?_
  rintro e w2 ⟨rfl, hb⟩
  have HB := Lib.hid (bel_next HB.out hb)
  clear hb
  go_wp2_with fail
  go_ret3
  exact ⟨rfl, HB.out⟩

set_option maxRecDepth 100000 in
set_option maxHeartbeats 3200000 in
theorem rgroups_high (cal fld : Int) (cyc : Bool) (p : Option Addr) (n c : Nat) (w : World) (ha : isCal cal) (hf0 : 1 ≤ fld) (hf : 4 < fld) : Calls Try.prog 44 #[.int .i64 cal, .slice p n c, .int .i64 fld, .bool cyc] w fun z w' => z = .returned (.tuple #[.slice none 0 0, .slice none 0 0, .int .i64 22]) ∧ Below w.heap.size w w' := by
  obtain ⟨nm, hnm, hn'⟩ := rname_any cal ha
  obtain ⟨e1, e2⟩ := hnm
  have h1 := Lib.hid hn'
  clear hn' ha
  have HB := Lib.hid (Below.refl w.heap.size w)
  go_enter Try.func44, Try.ntmps44
  go_wp2_with fail
  refine (h1.out _).mono ?_
  rintro e w2 ⟨rfl, hb⟩
  have HB := Lib.hid (bel_next HB.out hb)
  clear hb
  go_wp2_with fail
  go_ret3
  exact ⟨rfl, HB.out⟩

theorem rgroups_nofield (cal fld : Int) (cyc : Bool) (p : Option Addr) (n c : Nat) (w : World) (ha : isCal cal) (hf : ¬ (1 ≤ fld ∧ fld ≤ 4)) : Calls Try.prog 44 #[.int .i64 cal, .slice p n c, .int .i64 fld, .bool cyc] w fun z w' => z = .returned (.tuple #[.slice none 0 0, .slice none 0 0, .int .i64 22]) ∧ Below w.heap.size w w' := by
  by_cases h : 1 ≤ fld
  · exact rgroups_high cal fld cyc p n c w ha h (by omega)
  · exact rgroups_low cal fld cyc p n c w ha (by omega)
end Go.Proofs.Ythpeaeepcbbfcaa
