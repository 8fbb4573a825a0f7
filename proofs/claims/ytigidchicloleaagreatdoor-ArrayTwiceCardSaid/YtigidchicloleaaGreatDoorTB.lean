/- The program's integer, Int and FromInt. -/
import Derived.Test.YtigidchicloleaaGreatDoorTA
import Derived.Test.YtigidchicloleaaGreatDoorShelfB
set_option maxHeartbeats 3200000
set_option maxRecDepth 100000
namespace Go.Proofs.YtigidchicloleaaGreatDoor
open Go.RowKit Big
open Go.Lib
structure Env (w : World) : Prop where
  tab : Tab w
  syn : ∃ ev, w.cell? ⟨0, 0, none⟩ = some ev ∧ (ev = .nilIface ∨ ∃ te pe, ev = .iface te pe)
  rng : ∃ ev, w.cell? ⟨1, 0, none⟩ = some ev ∧ (ev = .nilIface ∨ ∃ te pe, ev = .iface te pe)
theorem Env.below {w w' : World} (h : Env w) (hb : Below w.heap.size w w') : Env w' := by
  obtain ⟨e1, h1, k1⟩ := h.syn
  obtain ⟨e2, h2, k2⟩ := h.rng
  refine ⟨h.tab.below hb, ⟨e1, ?_, k1⟩, ⟨e2, ?_, k2⟩⟩
  · have hG : 0 < w.heap.size := Lib.lt_of_cell h1
    exact (hb.cell (show (⟨0, 0, none⟩ : Addr).block < w.heap.size from hG)).trans h1
  · have hG : 1 < w.heap.size := Lib.lt_of_cell h2
    exact (hb.cell (show (⟨1, 0, none⟩ : Addr).block < w.heap.size from hG)).trans h2
theorem num_len {l : List UInt8} {q : Rat} (h : num l = some q) : l.length ≤ 82 := by
  unfold num readQ at h
  split at h
  · cases h
  · omega
theorem num_is (l : List UInt8) : isNum l = (num l).isSome := by
  unfold num isNum
  cases readQ l <;> rfl
def PiPost (o : Option Int) (w : World) (e : Ending) (w' : World) : Prop := Below w.heap.size w w' ∧ match o with
  | some v => e = .returned (.tuple #[.int .i64 v, .nilIface])
  | none => ∃ z T N, e = .returned (.tuple #[.int .i64 z, .iface T (.pointer (some ⟨N, 0, none⟩))])
theorem pi_world {w w' : World} (h : w' = w ∨ ∃ t, w' = Lib.bytesWorld w 5 t) : Below w.heap.size w w' := by
  rcases h with rfl | ⟨t, rfl⟩
  · exact Below.refl _ _
  · exact Lib.bytesWorld_below _ _ _
theorem parse_is (B : Nat) (hB : B = 8 ∨ B = 16 ∨ B = 32 ∨ B = 64) (x : ByteArray) (q : Rat) (hx : num x.data.toList = some q) (w : World) (h : Env w) : Calls Tryz.prog 136 #[.string x, .int .i64 10, .int .i64 (B : Int)] w (PiPost (intT B x.data.toList) w) := by
  have hl := num_len hx
  have hs : x.size ≤ 82 := by rw [← ByteArray.size_data]; simpa using hl
  obtain ⟨e1, h1, k1⟩ := h.syn
  obtain ⟨e2, h2, k2⟩ := h.rng
  rcases hB with rfl | rfl | rfl | rfl
  · have hp := pi_num (B := 8) (by decide) (by decide) hx
    unfold PiPost
    cases hi : intT 8 x.data.toList with
    | some v =>
      rw [hi] at hp
      exact (Tryz.strconv_ParseInt_10_at8_ok x (by omega) v hp w).mono fun e w' h => ⟨pi_world h.2, h.1⟩
    | none =>
      rw [hi] at hp
      rcases hp with hp | hp
      · exact (Tryz.strconv_ParseInt_10_at8_syntax x (by omega) hp e1 w h1 k1).mono fun e w' ⟨N, h, _, _, hb⟩ => ⟨hb, _, _, N, h⟩
      · exact (Tryz.strconv_ParseInt_10_at8_range x (by omega) hp e2 w h2 k2).mono fun e w' ⟨N, h, _, _, hb⟩ => ⟨hb, _, _, N, h⟩
  · have hp := pi_num (B := 16) (by decide) (by decide) hx
    unfold PiPost
    cases hi : intT 16 x.data.toList with
    | some v =>
      rw [hi] at hp
      exact (Tryz.strconv_ParseInt_10_at16_ok x (by omega) v hp w).mono fun e w' h => ⟨pi_world h.2, h.1⟩
    | none =>
      rw [hi] at hp
      rcases hp with hp | hp
      · exact (Tryz.strconv_ParseInt_10_at16_syntax x (by omega) hp e1 w h1 k1).mono fun e w' ⟨N, h, _, _, hb⟩ => ⟨hb, _, _, N, h⟩
      · exact (Tryz.strconv_ParseInt_10_at16_range x (by omega) hp e2 w h2 k2).mono fun e w' ⟨N, h, _, _, hb⟩ => ⟨hb, _, _, N, h⟩
  · have hp := pi_num (B := 32) (by decide) (by decide) hx
    unfold PiPost
    cases hi : intT 32 x.data.toList with
    | some v =>
      rw [hi] at hp
      exact (Tryz.strconv_ParseInt_10_at32_ok x (by omega) v hp w).mono fun e w' h => ⟨pi_world h.2, h.1⟩
    | none =>
      rw [hi] at hp
      rcases hp with hp | hp
      · exact (Tryz.strconv_ParseInt_10_at32_syntax x (by omega) hp e1 w h1 k1).mono fun e w' ⟨N, h, _, _, hb⟩ => ⟨hb, _, _, N, h⟩
      · exact (Tryz.strconv_ParseInt_10_at32_range x (by omega) hp e2 w h2 k2).mono fun e w' ⟨N, h, _, _, hb⟩ => ⟨hb, _, _, N, h⟩
  · have hp := pi_num (B := 64) (by decide) (by decide) hx
    unfold PiPost
    cases hi : intT 64 x.data.toList with
    | some v =>
      rw [hi] at hp
      exact (Tryz.strconv_ParseInt_10_at64_ok x (by omega) v hp w).mono fun e w' h => ⟨pi_world h.2, h.1⟩
    | none =>
      rw [hi] at hp
      rcases hp with hp | hp
      · exact (Tryz.strconv_ParseInt_10_at64_syntax x (by omega) hp e1 w h1 k1).mono fun e w' ⟨N, h, _, _, hb⟩ => ⟨hb, _, _, N, h⟩
      · exact (Tryz.strconv_ParseInt_10_at64_range x (by omega) hp e2 w h2 k2).mono fun e w' ⟨N, h, _, _, hb⟩ => ⟨hb, _, _, N, h⟩
def IntPost (o : Option Int) (w : World) (e : Ending) (w' : World) : Prop := e = .returned (.tuple #[.int .i64 (o.getD 0), .bool o.isSome]) ∧ Below w.heap.size w w'
theorem integer_no (x : ByteArray) (B : Int) (w : World) (hv : Hid (Calls Tryz.prog 115 #[.string x] w fun e w' => e = .returned (.bool false) ∧ Below w.heap.size w w')) : Calls Tryz.prog 116 #[.string x, .int .i64 B] w (IntPost none w) := by
  unfold IntPost
  go_enter Tryz.func116, Tryz.ntmps116
  go_wp2_with fail
  refine hv.out.mono ?_
  rintro e w1 ⟨rfl, hb1⟩
  have HB := hiD hb1
  clear hb1
  go_wp2_with fail
  go_ret2
  exact ⟨rfl, HB.out⟩
theorem integer_bad (x : ByteArray) (B : Int) (w : World) (hv : Hid (Calls Tryz.prog 115 #[.string x] w fun e w' => e = .returned (.bool true) ∧ Below w.heap.size w w'))
    (hp : Hid (∀ W, Below w.heap.size w W → Calls Tryz.prog 136 #[.string x, .int .i64 10, .int .i64 B] W fun e w' => Below W.heap.size W w' ∧ ∃ z T N, e = .returned (.tuple #[.int .i64 z, .iface T (.pointer (some ⟨N, 0, none⟩))]))) : Calls Tryz.prog 116 #[.string x, .int .i64 B] w (IntPost none w) := by
  unfold IntPost
  go_enter Tryz.func116, Tryz.ntmps116
  go_wp2_with fail
  refine hv.out.mono ?_
  rintro e w1 ⟨rfl, hb1⟩
  have HB := hiD hb1
  clear hb1
  go_wp2_with fail
  refine (hp.out _ HB.out).mono ?_
  rintro e w2 ⟨hb2, z, T, n, rfl⟩
  have HB2 := hiD (HB.out.trans (hb2.mono HB.out.size))
  clear hb2
  go_wp2_with fail
  go_ret2
  exact ⟨rfl, HB2.out⟩
theorem integer_yes (x : ByteArray) (B v : Int) (w : World) (hv : Hid (Calls Tryz.prog 115 #[.string x] w fun e w' => e = .returned (.bool true) ∧ Below w.heap.size w w'))
    (hp : Hid (∀ W, Below w.heap.size w W → Calls Tryz.prog 136 #[.string x, .int .i64 10, .int .i64 B] W fun e w' => Below W.heap.size W w' ∧ e = .returned (.tuple #[.int .i64 v, .nilIface]))) : Calls Tryz.prog 116 #[.string x, .int .i64 B] w (IntPost (some v) w) := by
  unfold IntPost
  go_enter Tryz.func116, Tryz.ntmps116
  go_wp2_with fail
  refine hv.out.mono ?_
  rintro e w1 ⟨rfl, hb1⟩
  have HB := hiD hb1
  clear hb1
  go_wp2_with fail
  refine (hp.out _ HB.out).mono ?_
  rintro e w2 ⟨hb2, rfl⟩
  have HB2 := hiD (HB.out.trans (hb2.mono HB.out.size))
  clear hb2
  go_wp2_with fail
  go_ret2
  exact ⟨rfl, HB2.out⟩
theorem integer_any (B : Nat) (hB : B = 8 ∨ B = 16 ∨ B = 32 ∨ B = 64) (x : ByteArray) (w : World) (h : Env w) : Calls Tryz.prog 116 #[.string x, .int .i64 (B : Int)] w (IntPost (intT B x.data.toList) w) := by
  have hv := valid_any x w h.tab
  rw [num_is] at hv
  cases hx : num x.data.toList with
  | none =>
    rw [hx] at hv
    have e : intT B x.data.toList = none := by unfold intT; rw [hx]
    rw [e]
    exact integer_no x B w (hiD hv)
  | some q =>
    rw [hx] at hv
    have hp := fun W (hW : Below w.heap.size w W) => parse_is B hB x q hx W (h.below hW)
    unfold PiPost at hp
    cases hi : intT B x.data.toList with
    | none => rw [hi] at hp; exact integer_bad x B w (hiD hv) (hiD hp)
    | some v => rw [hi] at hp; exact integer_yes x B v w (hiD hv) (hiD hp)
end Go.Proofs.YtigidchicloleaaGreatDoor
