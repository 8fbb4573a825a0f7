/- The program's integer, Int and FromInt. -/
import Derived.Test.YtlcpcpmlfegejaaGreatDoorTA
import Derived.Test.YtlcpcpmlfegejaaGreatDoorShelfB
import Derived.WalkKit
import Derived.WalkSpells
import Derived.WalkLawsBesides
import Derived.Lib.Hide
import Derived.Laws.Externs
import Derived.Shelf.Spec.BitsCarry
import Derived.Laws.CopyOwn
set_option maxHeartbeats 3200000
set_option maxRecDepth 100000
namespace Go.Proofs.YtlcpcpmlfegejaaGreatDoor
open Go.RowKit Big
open Go.Lib
structure Env (w : World) : Prop where
  tab : Tab w
  syn : ∃ ev, w.cell? ⟨1, 0, none⟩ = some ev ∧ (ev = .nilIface ∨ ∃ te pe, ev = .iface te pe)
  rng : ∃ ev, w.cell? ⟨2, 0, none⟩ = some ev ∧ (ev = .nilIface ∨ ∃ te pe, ev = .iface te pe)
theorem Env.below {w w' : World} (h : Env w) (hb : Below w.heap.size w w') : Env w' := by
  obtain ⟨e1, h1, k1⟩ := h.syn
  obtain ⟨e2, h2, k2⟩ := h.rng
  refine ⟨h.tab.below hb, ⟨e1, ?_, k1⟩, ⟨e2, ?_, k2⟩⟩
  · have hG : 1 < w.heap.size := Lib.lt_of_cell h1
    exact (hb.cell (show (⟨1, 0, none⟩ : Addr).block < w.heap.size from hG)).trans h1
  · have hG : 2 < w.heap.size := Lib.lt_of_cell h2
    exact (hb.cell (show (⟨2, 0, none⟩ : Addr).block < w.heap.size from hG)).trans h2
theorem num_len {l : List UInt8} {q : Rat} (h : num l = some q) : l.length ≤ 82 := by
  unfold num readQ at h
  split at h
  · cases h
  · omega
theorem num_is (l : List UInt8) : isNum l = (num l).isSome := by
  unfold num isNum
  cases readQ l <;> rfl
def PiPost (o : Option Int) (w : World) (e : Ending) (w' : World) : Prop := Below w.heap.size w w' ∧ match o with
  | some v => e = .returned (.tuple #[.int .i64 v, .nilIface])
  | none => ∃ z T N, e = .returned (.tuple #[.int .i64 z, .iface T (.pointer (some ⟨N, 0, none⟩))])
theorem pi_world {w w' : World} (h : w' = w ∨ ∃ t, w' = Lib.bytesWorld w 5 t) : Below w.heap.size w w' := by
  rcases h with rfl | ⟨t, rfl⟩
  · exact Below.refl _ _
  · exact Lib.bytesWorld_below _ _ _
theorem parse_is (B : Nat) (hB : B = 8 ∨ B = 16 ∨ B = 32 ∨ B = 64) (x : ByteArray) (q : Rat) (hx : num x.data.toList = some q) (w : World) (h : Env w) : Calls Tryz.prog 167 #[.string x, .int .i64 10, .int .i64 (B : Int)] w (PiPost (intT B x.data.toList) w) := by
  have hl := num_len hx
  have hs : x.size ≤ 82 := by rw [← ByteArray.size_data]; simpa using hl
  obtain ⟨e1, h1, k1⟩ := h.syn
  obtain ⟨e2, h2, k2⟩ := h.rng
  rcases hB with rfl | rfl | rfl | rfl
  · have hp := pi_num (B := 8) (by decide) (by decide) hx
    unfold PiPost
    cases hi : intT 8 x.data.toList with
    | some v =>
      rw [hi] at hp
      exact (Tryz.strconv_ParseInt_10_at8_ok x (by omega) v hp w).mono fun e w' h => ⟨pi_world h.2, h.1⟩
    | none =>
      rw [hi] at hp
      rcases hp with hp | hp
      · exact (Tryz.strconv_ParseInt_10_at8_syntax x (by omega) hp e1 w h1 k1).mono fun e w' ⟨N, h, _, _, hb⟩ => ⟨hb, _, _, N, h⟩
      · exact (Tryz.strconv_ParseInt_10_at8_range x (by omega) hp e2 w h2 k2).mono fun e w' ⟨N, h, _, _, hb⟩ => ⟨hb, _, _, N, h⟩
  · have hp := pi_num (B := 16) (by decide) (by decide) hx
    unfold PiPost
    cases hi : intT 16 x.data.toList with
    | some v =>
      rw [hi] at hp
      exact (Tryz.strconv_ParseInt_10_at16_ok x (by omega) v hp w).mono fun e w' h => ⟨pi_world h.2, h.1⟩
    | none =>
      rw [hi] at hp
      rcases hp with hp | hp
      · exact (Tryz.strconv_ParseInt_10_at16_syntax x (by omega) hp e1 w h1 k1).mono fun e w' ⟨N, h, _, _, hb⟩ => ⟨hb, _, _, N, h⟩
      · exact (Tryz.strconv_ParseInt_10_at16_range x (by omega) hp e2 w h2 k2).mono fun e w' ⟨N, h, _, _, hb⟩ => ⟨hb, _, _, N, h⟩
  · have hp := pi_num (B := 32) (by decide) (by decide) hx
    unfold PiPost
    cases hi : intT 32 x.data.toList with
    | some v =>
      rw [hi] at hp
      exact (Tryz.strconv_ParseInt_10_at32_ok x (by omega) v hp w).mono fun e w' h => ⟨pi_world h.2, h.1⟩
    | none =>
      rw [hi] at hp
      rcases hp with hp | hp
      · exact (Tryz.strconv_ParseInt_10_at32_syntax x (by omega) hp e1 w h1 k1).mono fun e w' ⟨N, h, _, _, hb⟩ => ⟨hb, _, _, N, h⟩
      · exact (Tryz.strconv_ParseInt_10_at32_range x (by omega) hp e2 w h2 k2).mono fun e w' ⟨N, h, _, _, hb⟩ => ⟨hb, _, _, N, h⟩
  · have hp := pi_num (B := 64) (by decide) (by decide) hx
    unfold PiPost
    cases hi : intT 64 x.data.toList with
    | some v =>
      rw [hi] at hp
      exact (Tryz.strconv_ParseInt_10_at64_ok x (by omega) v hp w).mono fun e w' h => ⟨pi_world h.2, h.1⟩
    | none =>
      rw [hi] at hp
      rcases hp with hp | hp
      · exact (Tryz.strconv_ParseInt_10_at64_syntax x (by omega) hp e1 w h1 k1).mono fun e w' ⟨N, h, _, _, hb⟩ => ⟨hb, _, _, N, h⟩
      · exact (Tryz.strconv_ParseInt_10_at64_range x (by omega) hp e2 w h2 k2).mono fun e w' ⟨N, h, _, _, hb⟩ => ⟨hb, _, _, N, h⟩
def IntPost (o : Option Int) (w : World) (e : Ending) (w' : World) : Prop := e = .returned (.tuple #[.int .i64 (o.getD 0), .bool o.isSome]) ∧ Below w.heap.size w w'
theorem integer_no (x : ByteArray) (B : Int) (w : World) (hv : Hid (Calls Tryz.prog 136 #[.string x] w fun e w' => e = .returned (.bool false) ∧ Below w.heap.size w w')) : Calls Tryz.prog 137 #[.string x, .int .i64 B] w (IntPost none w) := by
  unfold IntPost
  go_enter Tryz.func137, Tryz.ntmps137
  go_wp2_with fail
  refine hv.out.mono ?_
  rintro e w1 ⟨rfl, hb1⟩
  have HB := hiD hb1
  clear hb1
  go_wp2_with fail
  go_ret2
  exact ⟨rfl, HB.out⟩
theorem integer_bad (x : ByteArray) (B : Int) (w : World) (hv : Hid (Calls Tryz.prog 136 #[.string x] w fun e w' => e = .returned (.bool true) ∧ Below w.heap.size w w'))
    (hp : Hid (∀ W, Below w.heap.size w W → Calls Tryz.prog 167 #[.string x, .int .i64 10, .int .i64 B] W fun e w' => Below W.heap.size W w' ∧ ∃ z T N, e = .returned (.tuple #[.int .i64 z, .iface T (.pointer (some ⟨N, 0, none⟩))]))) : Calls Tryz.prog 137 #[.string x, .int .i64 B] w (IntPost none w) := by
  unfold IntPost
  go_enter Tryz.func137, Tryz.ntmps137
  go_wp2_with fail
  refine hv.out.mono ?_
  rintro e w1 ⟨rfl, hb1⟩
  have HB := hiD hb1
  clear hb1
  go_wp2_with fail
  refine (hp.out _ HB.out).mono ?_
  rintro e w2 ⟨hb2, z, T, n, rfl⟩
  have HB2 := hiD (HB.out.trans (hb2.mono HB.out.size))
  clear hb2
  go_wp2_with fail
  go_ret2
  exact ⟨rfl, HB2.out⟩
theorem integer_yes (x : ByteArray) (B v : Int) (w : World) (hv : Hid (Calls Tryz.prog 136 #[.string x] w fun e w' => e = .returned (.bool true) ∧ Below w.heap.size w w'))
    (hp : Hid (∀ W, Below w.heap.size w W → Calls Tryz.prog 167 #[.string x, .int .i64 10, .int .i64 B] W fun e w' => Below W.heap.size W w' ∧ e = .returned (.tuple #[.int .i64 v, .nilIface]))) : Calls Tryz.prog 137 #[.string x, .int .i64 B] w (IntPost (some v) w) := by
  unfold IntPost
  go_enter Tryz.func137, Tryz.ntmps137
  go_wp2_with fail
  refine hv.out.mono ?_
  rintro e w1 ⟨rfl, hb1⟩
  have HB := hiD hb1
  clear hb1
  go_wp2_with fail
  refine (hp.out _ HB.out).mono ?_
  rintro e w2 ⟨hb2, rfl⟩
  have HB2 := hiD (HB.out.trans (hb2.mono HB.out.size))
  clear hb2
  go_wp2_with fail
  go_ret2
  exact ⟨rfl, HB2.out⟩
theorem integer_any (B : Nat) (hB : B = 8 ∨ B = 16 ∨ B = 32 ∨ B = 64) (x : ByteArray) (w : World) (h : Env w) : Calls Tryz.prog 137 #[.string x, .int .i64 (B : Int)] w (IntPost (intT B x.data.toList) w) := by
  have hv := valid_any x w h.tab
  rw [num_is] at hv
  cases hx : num x.data.toList with
  | none =>
    rw [hx] at hv
    have e : intT B x.data.toList = none := by unfold intT; rw [hx]
    rw [e]
    exact integer_no x B w (hiD hv)
  | some q =>
    rw [hx] at hv
    have hp := fun W (hW : Below w.heap.size w W) => parse_is B hB x q hx W (h.below hW)
    unfold PiPost at hp
    cases hi : intT B x.data.toList with
    | none => rw [hi] at hp; exact integer_bad x B w (hiD hv) (hiD hp)
    | some v => rw [hi] at hp; exact integer_yes x B v w (hiD hv) (hiD hp)
end Go.Proofs.YtlcpcpmlfegejaaGreatDoor
set_option maxHeartbeats 3200000
set_option maxRecDepth 100000
namespace Go.Proofs.YtlcpcpmlfegejaaGreatDoor
open Go.RowKit Big
open Go.Lib
def fitT (kind : Int) (l : List UInt8) : Bool :=
  if kind = 1 then l.isEmpty || (intT 8 l).isSome else if kind = 2 then l.isEmpty || (intT 16 l).isSome else if kind = 3 then l.isEmpty || (intT 32 l).isSome
  else if kind = 4 then l.isEmpty || (intT 64 l).isSome else if kind = 5 then l.isEmpty || (num l).isSome else false
theorem pfits1_nil (z : Int) (f : Bool) (w : World) (h76 : Hid (∀ W, Below w.heap.size w W → Calls Tryz.prog 137 #[.string ⟨#[]⟩, .int .i64 8] W fun e w' => e = .returned (.tuple #[.int .i64 z, .bool f]) ∧ Below W.heap.size W w')) : Calls Tryz.prog 99 #[.int .i64 1, .string ⟨#[]⟩] w fun e w' => e = .returned (.bool true) ∧ Below w.heap.size w w' := by
  go_enter Tryz.func99, Tryz.ntmps99
  go_wp2_with fail
  refine (h76.out _ (Below.refl _ _)).mono ?_
  rintro e w1 ⟨rfl, hb⟩
  have B1 := hiD (hb)
  clear hb
  go_wp2_with fail
  go_ret
  exact ⟨rfl, B1.out⟩
theorem pfits1_some (l : List UInt8) (_hl : ¬ l = []) (hl2 : l.isEmpty = false) (z : Int) (f : Bool) (w : World) (h76 : Hid (∀ W, Below w.heap.size w W → Calls Tryz.prog 137 #[.string ⟨l.toArray⟩, .int .i64 8] W fun e w' => e = .returned (.tuple #[.int .i64 z, .bool f]) ∧ Below W.heap.size W w')) : Calls Tryz.prog 99 #[.int .i64 1, .string ⟨l.toArray⟩] w fun e w' => e = .returned (.bool f) ∧ Below w.heap.size w w' := by
  go_enter Tryz.func99, Tryz.ntmps99
  go_wp2_with fail
  refine (h76.out _ (Below.refl _ _)).mono ?_
  rintro e w1 ⟨rfl, hb⟩
  have B1 := hiD (hb)
  clear hb
  go_wp2_with fail
  go_ret
  exact ⟨rfl, B1.out⟩
theorem pfits2_nil (z : Int) (f : Bool) (w : World) (h76 : Hid (∀ W, Below w.heap.size w W → Calls Tryz.prog 137 #[.string ⟨#[]⟩, .int .i64 16] W fun e w' => e = .returned (.tuple #[.int .i64 z, .bool f]) ∧ Below W.heap.size W w')) : Calls Tryz.prog 99 #[.int .i64 2, .string ⟨#[]⟩] w fun e w' => e = .returned (.bool true) ∧ Below w.heap.size w w' := by
  go_enter Tryz.func99, Tryz.ntmps99
  go_wp2_with fail
  refine (h76.out _ (Below.refl _ _)).mono ?_
  rintro e w1 ⟨rfl, hb⟩
  have B1 := hiD (hb)
  clear hb
  go_wp2_with fail
  go_ret
  exact ⟨rfl, B1.out⟩
theorem pfits2_some (l : List UInt8) (_hl : ¬ l = []) (hl2 : l.isEmpty = false) (z : Int) (f : Bool) (w : World) (h76 : Hid (∀ W, Below w.heap.size w W → Calls Tryz.prog 137 #[.string ⟨l.toArray⟩, .int .i64 16] W fun e w' => e = .returned (.tuple #[.int .i64 z, .bool f]) ∧ Below W.heap.size W w')) : Calls Tryz.prog 99 #[.int .i64 2, .string ⟨l.toArray⟩] w fun e w' => e = .returned (.bool f) ∧ Below w.heap.size w w' := by
  go_enter Tryz.func99, Tryz.ntmps99
  go_wp2_with fail
  refine (h76.out _ (Below.refl _ _)).mono ?_
  rintro e w1 ⟨rfl, hb⟩
  have B1 := hiD (hb)
  clear hb
  go_wp2_with fail
  go_ret
  exact ⟨rfl, B1.out⟩
theorem pfits3_nil (z : Int) (f : Bool) (w : World) (h76 : Hid (∀ W, Below w.heap.size w W → Calls Tryz.prog 137 #[.string ⟨#[]⟩, .int .i64 32] W fun e w' => e = .returned (.tuple #[.int .i64 z, .bool f]) ∧ Below W.heap.size W w')) : Calls Tryz.prog 99 #[.int .i64 3, .string ⟨#[]⟩] w fun e w' => e = .returned (.bool true) ∧ Below w.heap.size w w' := by
  go_enter Tryz.func99, Tryz.ntmps99
  go_wp2_with fail
  refine (h76.out _ (Below.refl _ _)).mono ?_
  rintro e w1 ⟨rfl, hb⟩
  have B1 := hiD (hb)
  clear hb
  go_wp2_with fail
  go_ret
  exact ⟨rfl, B1.out⟩
theorem pfits3_some (l : List UInt8) (_hl : ¬ l = []) (hl2 : l.isEmpty = false) (z : Int) (f : Bool) (w : World) (h76 : Hid (∀ W, Below w.heap.size w W → Calls Tryz.prog 137 #[.string ⟨l.toArray⟩, .int .i64 32] W fun e w' => e = .returned (.tuple #[.int .i64 z, .bool f]) ∧ Below W.heap.size W w')) : Calls Tryz.prog 99 #[.int .i64 3, .string ⟨l.toArray⟩] w fun e w' => e = .returned (.bool f) ∧ Below w.heap.size w w' := by
  go_enter Tryz.func99, Tryz.ntmps99
  go_wp2_with fail
  refine (h76.out _ (Below.refl _ _)).mono ?_
  rintro e w1 ⟨rfl, hb⟩
  have B1 := hiD (hb)
  clear hb
  go_wp2_with fail
  go_ret
  exact ⟨rfl, B1.out⟩
theorem pfits4_nil (z : Int) (f : Bool) (w : World) (h76 : Hid (∀ W, Below w.heap.size w W → Calls Tryz.prog 137 #[.string ⟨#[]⟩, .int .i64 64] W fun e w' => e = .returned (.tuple #[.int .i64 z, .bool f]) ∧ Below W.heap.size W w')) : Calls Tryz.prog 99 #[.int .i64 4, .string ⟨#[]⟩] w fun e w' => e = .returned (.bool true) ∧ Below w.heap.size w w' := by
  go_enter Tryz.func99, Tryz.ntmps99
  go_wp2_with fail
  refine (h76.out _ (Below.refl _ _)).mono ?_
  rintro e w1 ⟨rfl, hb⟩
  have B1 := hiD (hb)
  clear hb
  go_wp2_with fail
  go_ret
  exact ⟨rfl, B1.out⟩
theorem pfits4_some (l : List UInt8) (_hl : ¬ l = []) (hl2 : l.isEmpty = false) (z : Int) (f : Bool) (w : World) (h76 : Hid (∀ W, Below w.heap.size w W → Calls Tryz.prog 137 #[.string ⟨l.toArray⟩, .int .i64 64] W fun e w' => e = .returned (.tuple #[.int .i64 z, .bool f]) ∧ Below W.heap.size W w')) : Calls Tryz.prog 99 #[.int .i64 4, .string ⟨l.toArray⟩] w fun e w' => e = .returned (.bool f) ∧ Below w.heap.size w w' := by
  go_enter Tryz.func99, Tryz.ntmps99
  go_wp2_with fail
  refine (h76.out _ (Below.refl _ _)).mono ?_
  rintro e w1 ⟨rfl, hb⟩
  have B1 := hiD (hb)
  clear hb
  go_wp2_with fail
  go_ret
  exact ⟨rfl, B1.out⟩
theorem pfits5_nil (w : World) : Calls Tryz.prog 99 #[.int .i64 5, .string ⟨#[]⟩] w fun e w' => e = .returned (.bool true) ∧ Below w.heap.size w w' := by
  go_enter Tryz.func99, Tryz.ntmps99
  go_wp2_with fail
  go_ret
  exact ⟨rfl, Below.refl _ _⟩
theorem pfits5_some (l : List UInt8) (_hl : ¬ l = []) (hl2 : l.isEmpty = false) (f : Bool) (w : World) (h19 : Hid (∀ W, Below w.heap.size w W → Calls Tryz.prog 136 #[.string ⟨l.toArray⟩] W fun e w' => e = .returned (.bool f) ∧ Below W.heap.size W w')) : Calls Tryz.prog 99 #[.int .i64 5, .string ⟨l.toArray⟩] w fun e w' => e = .returned (.bool f) ∧ Below w.heap.size w w' := by
  go_enter Tryz.func99, Tryz.ntmps99
  go_wp2_with fail
  refine (h19.out _ (Below.refl _ _)).mono ?_
  rintro e w1 ⟨rfl, hb⟩
  have B1 := hiD (hb)
  clear hb
  go_wp2_with fail
  go_ret
  exact ⟨rfl, B1.out⟩
theorem pfits_no (x : ByteArray) (k : Int) (h1 : ¬ k = 1) (h2 : ¬ k = 2) (h3 : ¬ k = 3) (h4 : ¬ k = 4) (h5 : ¬ k = 5) (w : World) : Calls Tryz.prog 99 #[.int .i64 k, .string x] w fun e w' => e = .returned (.bool false) ∧ Below w.heap.size w w' := by
  go_enter Tryz.func99, Tryz.ntmps99
  go_wp2_with fail
  go_ret
  exact ⟨rfl, Below.refl _ _⟩
theorem pfits_list (k : Int) (l : List UInt8) (w : World) (h : Env w) : Calls Tryz.prog 99 #[.int .i64 k, .string ⟨l.toArray⟩] w fun e w' => e = .returned (.bool (fitT k l)) ∧ Below w.heap.size w w' := by
  have hi : ∀ (B : Nat), B = 8 ∨ B = 16 ∨ B = 32 ∨ B = 64 → ∀ W, Below w.heap.size w W → Calls Tryz.prog 137 #[.string ⟨l.toArray⟩, .int .i64 (B : Int)] W (IntPost (intT B l) W) := fun B hB W hW => integer_any B hB ⟨l.toArray⟩ W (h.below hW)
  have hv : ∀ W, Below w.heap.size w W → Calls Tryz.prog 136 #[.string ⟨l.toArray⟩] W fun e w' => e = .returned (.bool (num l).isSome) ∧ Below W.heap.size W w' := fun W hW => by
    have h := valid_any ⟨l.toArray⟩ W (h.below hW).tab
    rw [num_is] at h
    exact h
  unfold fitT
  by_cases h1 : k = 1
  · subst h1
    simp only [if_true, Int.reduceEq, if_false]
    by_cases hl : l = []
    · subst hl; exact pfits1_nil _ _ w (hiD (hi 8 (by omega)))
    · have hl2 : l.isEmpty = false := by simpa using hl
      rw [hl2, Bool.false_or]
      exact pfits1_some l hl hl2 _ _ w (hiD (hi 8 (by omega)))
  by_cases h2 : k = 2
  · subst h2
    simp only [if_true, Int.reduceEq, if_false]
    by_cases hl : l = []
    · subst hl; exact pfits2_nil _ _ w (hiD (hi 16 (by omega)))
    · have hl2 : l.isEmpty = false := by simpa using hl
      rw [hl2, Bool.false_or]
      exact pfits2_some l hl hl2 _ _ w (hiD (hi 16 (by omega)))
  by_cases h3 : k = 3
  · subst h3
    simp only [if_true, Int.reduceEq, if_false]
    by_cases hl : l = []
    · subst hl; exact pfits3_nil _ _ w (hiD (hi 32 (by omega)))
    · have hl2 : l.isEmpty = false := by simpa using hl
      rw [hl2, Bool.false_or]
      exact pfits3_some l hl hl2 _ _ w (hiD (hi 32 (by omega)))
  by_cases h4 : k = 4
  · subst h4
    simp only [if_true, Int.reduceEq, if_false]
    by_cases hl : l = []
    · subst hl; exact pfits4_nil _ _ w (hiD (hi 64 (by omega)))
    · have hl2 : l.isEmpty = false := by simpa using hl
      rw [hl2, Bool.false_or]
      exact pfits4_some l hl hl2 _ _ w (hiD (hi 64 (by omega)))
  by_cases h5 : k = 5
  · subst h5
    simp only [if_true, Int.reduceEq, if_false]
    by_cases hl : l = []
    · subst hl; exact pfits5_nil w
    · have hl2 : l.isEmpty = false := by simpa using hl
      rw [hl2, Bool.false_or]
      exact pfits5_some l hl hl2 _ w (hiD hv)
  simp only [h1, h2, h3, h4, h5, if_false]
  exact pfits_no _ k h1 h2 h3 h4 h5 w
end Go.Proofs.YtlcpcpmlfegejaaGreatDoor
set_option maxRecDepth 100000
set_option maxHeartbeats 800000
namespace Go.Proofs.YtlcpcpmlfegejaaGreatDoor
end Go.Proofs.YtlcpcpmlfegejaaGreatDoor
namespace Big
theorem Canon.of_last {B : Nat} {l : List Nat} (h : Dig B l) (k : Nat) (hk : l.length = k + 1) (h0 : l.getD k 0 ≠ 0) : Canon B l := by
  refine ⟨h, ?_⟩
  rw [List.getLast?_eq_getElem?, hk, Nat.add_sub_cancel]
  rw [List.getD_eq_getElem?_getD] at h0
  intro e; rw [e] at h0; simp at h0
theorem Canon.zero_iff {B : Nat} (hB : 0 < B) {l : List Nat} (h : Canon B l) : val B l = 0 ↔ l = [] := by
  constructor
  · intro h0
    cases l with
    | nil => rfl
    | cons x t =>
      have := h.pow_le t.length (by simp)
      have hp : 0 < B ^ t.length := Nat.pow_pos hB
      omega
  · rintro rfl; rfl
end Big
namespace Go.Proofs.YtlcpcpmlfegejaaGreatDoor
open Go.RowKit
end Go.Proofs.YtlcpcpmlfegejaaGreatDoor
namespace Go.Proofs.YtlcpcpmlfegejaaGreatDoor
open Go.RowKit Big
end Go.Proofs.YtlcpcpmlfegejaaGreatDoor
