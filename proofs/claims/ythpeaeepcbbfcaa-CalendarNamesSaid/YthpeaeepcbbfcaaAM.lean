/- Find and Name. -/
import Derived.Test.YthpeaeepcbbfcaaAL
namespace Go.Proofs.Ythpeaeepcbbfcaa
open Go.RowKit Go.Maps

/-- The calendar with a name, or 0. -/
def findN (l : List UInt8) : Int := if l = nm1 then 1 else if l = nm2 then 2 else if l = nm3 then 3 else if l = nm4 then 4 else if l = nm5 then 5 else 0
theorem str_ne {a b : List UInt8} (h : a ≠ b) : (Lit.string a) ≠ .string b := fun e => h (by injection e)
theorem lk (a : List UInt8) : WideAt.IsKeyLit (.string a) := trivial
theorem isM0 : IsMap (.map [] : DU) := isMap_empty
theorem calD_at (l : List UInt8) (z : DU) : calD.atKey (.string l) z = if findN l = 0 then z else num3 (findN l) := by
  unfold calD findN
  by_cases h5 : l = nm5
  · subst h5
    rw [atKey_put_same ((((isM0.put _ _).put _ _).put _ _).put _ _) (lk _), if_neg (by decide), if_neg (by decide), if_neg (by decide), if_neg (by decide), if_pos rfl]; rfl
  · rw [atKey_put_other (str_ne h5)]
    by_cases h4 : l = nm4
    · subst h4
      rw [atKey_put_same (((isM0.put _ _).put _ _).put _ _) (lk _), if_neg (by decide), if_neg (by decide), if_neg (by decide), if_pos rfl]; rfl
    · rw [atKey_put_other (str_ne h4)]
      by_cases h3 : l = nm3
      · subst h3
        rw [atKey_put_same ((isM0.put _ _).put _ _) (lk _), if_neg (by decide), if_neg (by decide), if_pos rfl]; rfl
      · rw [atKey_put_other (str_ne h3)]
        by_cases h2 : l = nm2
        · subst h2
          rw [atKey_put_same (isM0.put _ _) (lk _), if_neg (by decide), if_pos rfl]; rfl
        · rw [atKey_put_other (str_ne h2)]
          by_cases h1 : l = nm1
          · subst h1
            rw [atKey_put_same isM0 (lk _), if_pos rfl]; rfl
          · rw [atKey_put_other (str_ne h1), if_neg h1, if_neg h2, if_neg h3, if_neg h4, if_neg h5]; rfl
theorem calD_has (l : List UInt8) : Maps.has calD (.string l) = decide (findN l ≠ 0) := by
  unfold calD findN
  by_cases h5 : l = nm5
  · subst h5
    rw [has_put_same ((((isM0.put _ _).put _ _).put _ _).put _ _) (lk _), if_neg (by decide), if_neg (by decide), if_neg (by decide), if_neg (by decide), if_pos rfl]; rfl
  · rw [has_put_other (str_ne h5)]
    by_cases h4 : l = nm4
    · subst h4
      rw [has_put_same (((isM0.put _ _).put _ _).put _ _) (lk _), if_neg (by decide), if_neg (by decide), if_neg (by decide), if_pos rfl]; rfl
    · rw [has_put_other (str_ne h4)]
      by_cases h3 : l = nm3
      · subst h3
        rw [has_put_same ((isM0.put _ _).put _ _) (lk _), if_neg (by decide), if_neg (by decide), if_pos rfl]; rfl
      · rw [has_put_other (str_ne h3)]
        by_cases h2 : l = nm2
        · subst h2
          rw [has_put_same (isM0.put _ _) (lk _), if_neg (by decide), if_pos rfl]; rfl
        · rw [has_put_other (str_ne h2)]
          by_cases h1 : l = nm1
          · subst h1
            rw [has_put_same isM0 (lk _), if_pos rfl]; rfl
          · rw [has_put_other (str_ne h1), if_neg h1, if_neg h2, if_neg h3, if_neg h4, if_neg h5]; rfl
theorem findN_name (c : Int) (h : isCal c) : findN (nameOf c).data.toList = c := by
  unfold isCal at h
  have hc : c = 1 ∨ c = 2 ∨ c = 3 ∨ c = 4 ∨ c = 5 := by omega
  rcases hc with rfl | rfl | rfl | rfl | rfl <;> decide
theorem findN_some (l : List UInt8) (h : findN l ≠ 0) : isCal (findN l) ∧ l = (nameOf (findN l)).data.toList := by
  unfold findN at *
  by_cases h1 : l = nm1
  · subst h1; decide
  · by_cases h2 : l = nm2
    · subst h2; decide
    · by_cases h3 : l = nm3
      · subst h3; decide
      · by_cases h4 : l = nm4
        · subst h4; decide
        · by_cases h5 : l = nm5
          · subst h5; decide
          · rw [if_neg h1, if_neg h2, if_neg h3, if_neg h4, if_neg h5] at h; exact absurd rfl h
theorem bytes_eq {a b : ByteArray} (h : a.data.toList = b.data.toList) : a = b := by
  cases a; cases b; simp_all

theorem zero3 (w : World) : (zeroValue 3).run Try.prog w = .ok (.int .i64 0) w := by kernel_rfl

set_option maxRecDepth 100000 in
set_option maxHeartbeats 1600000 in
theorem find_any (s : ByteArray) (w : World) (hs : s.size ≤ maxLen) : Calls Try.prog 15 #[.string s] w fun e w' => e = .returned (.tuple #[.int .i64 (findN s.data.toList), .bool (!decide (findN s.data.toList = 0))]) ∧ Below w.heap.size w w' := by
  have hkey := Lib.hid (WideMaps.keyOf_string_mk (P := Try.prog) Try.underlying9 hs)
  have hat0 := Lib.hid (calD_at s.data.toList (.lit (.int .i64 0)))
  have hhas := Lib.hid (calD_has s.data.toList)
  have hc := Lib.hid (calendars_any w)
  go_enter Try.func15, Try.ntmps15
  go_wp2_with fail
  refine hc.out.mono ?_
  rintro e w2 ⟨b, rfl, hbw, hown, hb2⟩
  have Hown := Lib.hid hown
  have HB := Lib.hid hb2
  clear hown hb2
  go_wp2_with (first | (at_lookup; refine wpList_lookup_own_ok_int _ rfl _ _ 62 rfl 9 3 .i64 law9 Try.underlying62 Try.underlying3 (zero3 _) b 5 _ rfl Hown.out _ _ rfl hkey.out ?_; intro c hat hwc; have Hat := Lib.hid hat; clear hat; rw [hhas.out]))
  have hcn : c = findN s.data.toList := by
    have a := Hat.out
    rw [hat0.out] at a
    by_cases h0 : findN s.data.toList = 0
    · rw [if_pos h0] at a
      rw [h0]; injection a with a; injection a with a1 a2; exact a2.symm
    · rw [if_neg h0] at a
      unfold num3 at a; injection a with a; injection a with a1 a2; exact a2.symm
  subst hcn
  go_ret2
  exact ⟨rfl, HB.out⟩
end Go.Proofs.Ythpeaeepcbbfcaa
