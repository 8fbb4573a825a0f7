/- Name. -/
import Derived.Test.YthpeaeepcbbfcaaAM
namespace Go.Proofs.Ythpeaeepcbbfcaa
open Go.RowKit Go.Maps

theorem nameOf_no {c : Int} (h : ¬ isCal c) : nameOf c = ⟨#[]⟩ := by
  unfold isCal at h
  unfold nameOf
  rw [if_neg (by omega), if_neg (by omega), if_neg (by omega), if_neg (by omega), if_neg (by omega)]
theorem invStr (key : Value) (kl : Lit) (h : keyOf Try.prog 9 key = some kl) : ∃ x, key = Value.string x := (WideMaps.string_of_keyOf Try.underlying9 h).elim fun s hs => ⟨s, hs.1⟩
theorem invInt (v : Value) (y : DU × List MemPlace) (h : plainElem Try.prog 3 v = some y) : ∃ c, v = Value.int .i64 c := (plainElem_int_inv Try.underlying3 h).elim fun c hc => ⟨c, hc.1⟩

set_option maxRecDepth 100000 in
theorem entry_is {x : ByteArray} {c : Int} {kl : Lit} {y : DU × List MemPlace} (hkey : keyOf Try.prog 9 (.string x) = some kl) (hR : plainElem Try.prog 3 (.int .i64 c) = some y) (hat : ∀ zd, calD.atKey kl zd = y.1) :
    kl = .string x.data.toList ∧ isCal c ∧ x = nameOf c := by
  obtain ⟨s, hs, hk, -⟩ := WideMaps.string_of_keyOf Try.underlying9 hkey
  injection hs with hs
  subst hs
  obtain ⟨c', hc, hy, -⟩ := plainElem_int_inv Try.underlying3 hR
  injection hc with _ hc
  subst hc
  subst hy
  have a0 := hat (.lit (.int .i64 0))
  have a1 := hat (.lit (.int .i64 1))
  rw [hk, calD_at] at a0 a1
  by_cases h0 : findN x.data.toList = 0
  · rw [if_pos h0] at a0 a1
    have e := a0.trans a1.symm
    injection e with e; injection e with _ e; omega
  · rw [if_neg h0] at a0
    have e : findN x.data.toList = c := by
      unfold num3 at a0
      injection a0 with e; injection e
    obtain ⟨i1, i2⟩ := findN_some _ h0
    rw [e] at i1 i2
    exact ⟨hk, i1, bytes_eq i2⟩
theorem same_other {c c' : Int} (h : isCal c) (h' : isCal c') (hne : c ≠ c') : (Lit.string (nameOf c).data.toList).sameKey (.string (nameOf c').data.toList) = false :=
  sameKey_ne (str_ne fun e => hne (by rw [← findN_name c h, e, findN_name c' h']))

set_option maxRecDepth 100000 in
set_option maxHeartbeats 3200000 in
theorem name_any (cal : Int) (w : World) : Calls Try.prog 17 #[.int .i64 cal] w fun e w' => e = .returned (.string (nameOf cal)) ∧ Below w.heap.size w w' := by
  have hc := Lib.hid (calendars_any w)
  have hstart := Lib.hid (show isCal cal → Maps.has calD (.string (nameOf cal).data.toList) = true from fun h => by rw [calD_has, findN_name cal h]; unfold isCal at h; simp; omega)
  go_enter Try.func17, Try.ntmps17
  go_wp2_with fail
  refine hc.out.mono ?_
  rintro e w2 ⟨b, rfl, hbw, hown, hb2⟩
  have Hown := Lib.hid hown
  have HB := Lib.hid hb2
  have Hbw := Lib.hid hbw
  clear hown hb2 hbw
  go_wp2_with (first | (at_range; refine wpList_range_own _ rfl _ 62 rfl 9 3 law9 Try.underlying62 _ b 5 _ rfl Hown.out ?_; intro w3 hrg0 hg0 hs0; have Hrg := Lib.hid hrg0; have HB3 := Lib.hid (HB.out.trans ((show Below w2.heap.size w2 w3 from ⟨hg0.os, hg0.tape, hg0.output, hg0.size, fun k hk => hg0.block k hk (by simp)⟩).mono HB.out.size)); clear hrg0 hg0 hs0) | go_in)
  go_frame
  go_loopw [3, 4] (fun _ _ wr => ∃ (left : Lit → Bool) (cnt : Nat), Hid (wr.ranges Try.prog 9 (plainElem Try.prog 3) b w2.heap.size 5 calD left cnt) ∧ Hid (isCal cal → left (.string (nameOf cal).data.toList) = true) ∧ Hid (Below w.heap.size w wr)) (fun _ _ wr => wr.rangeLeft b w2.heap.size)
  case atStart => exact ⟨_, _, Hrg, hstart, HB3⟩
  case round =>
    obtain ⟨left, cnt, hrg, hleft, hbr⟩ := hrel
    go_wp2_with (first | (at_next; refine wpList_next_ranges _ rfl _ rfl 9 law9 (plainElem Try.prog 3) Value.string (Value.int .i64) invStr invInt b w2.heap.size 5 _ _ _ rfl hrg.out ?_ ?_) | go_in)
    · intro _ hl0
      have hno : ¬ isCal cal := fun h => by have := hleft.out h; rw [hl0] at this; cases this
      have hnm := Lib.hid (nameOf_no hno)
      clear hl0 hno
      go_wp2
      go_ret
      exact ⟨by rw [hnm.out]; rfl, hbr.out⟩
    · intro x c kl y1 y2 w4 cnt' hkey hlk hR hat hrg1 hlt hg1 hs1 hen
      obtain ⟨hkl, hic, hxn⟩ := entry_is hkey hR hat
      have hb4 := Lib.hid (hbr.out.grown hg1 hbr.out.size (fun k hk => by cases hk; exact HB.out.size))
      have Hrg1 := Lib.hid hrg1
      have Hlt := Lib.hid hlt
      have Hkl := Lib.hid hkl
      have Hxn := Lib.hid hxn
      have Hic := Lib.hid hic
      clear hkey hlk hR hat hrg1 hlt hg1 hs1 hkl hxn hic
      by_cases hcc : c = cal
      · subst hcc
        go_wp2
        go_ret
        exact ⟨by rw [← Hxn.out]; rfl, hb4.out⟩
      · have hne : (c == cal) = false := by simpa using hcc
        have hl4 := Lib.hid (show isCal cal → (left (.string (nameOf cal).data.toList) && !(Lit.string (nameOf cal).data.toList).sameKey kl) = true from fun h => by
          rw [hleft.out h, Hkl.out, Hxn.out, same_other h Hic.out (fun e => hcc e.symm)]; rfl)
        go_wp2
        go_roundw
        case rel => exact ⟨_, cnt', Hrg1, hl4, hb4⟩
        case measure => rw [Hrg1.out.left_eq, hrg.out.left_eq]; exact Hlt.out
end Go.Proofs.Ythpeaeepcbbfcaa
