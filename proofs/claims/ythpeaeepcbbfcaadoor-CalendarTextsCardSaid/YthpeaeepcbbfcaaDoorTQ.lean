/- The law CalendarTexts. -/
import Derived.Test.YthpeaeepcbbfcaaDoorTO
import Derived.Test.YthpeaeepcbbfcaaDoorTP
namespace Go.Proofs.YthpeaeepcbbfcaaDoor
open Go.RowKit

theorem pad11 (n : Nat) (w : World) (htab : Tab w) : (n < 10000 → PadIs 11 w (n : Int) 4 ⟨(dig4 n).toArray⟩) ∧ (n < 100 → PadIs 11 w (n : Int) 2 ⟨(dig2 n).toArray⟩) :=
  ⟨fun h W hW => padded4 n W h (htab.below hW), fun h W hW => padded2 n W h (htab.below hW)⟩
theorem pad30 (n : Nat) (w : World) : (n < 10000 → PadIs 30 w (n : Int) 4 ⟨(dig4 n).toArray⟩) ∧ (n < 100 → PadIs 30 w (n : Int) 2 ⟨(dig2 n).toArray⟩) :=
  ⟨fun h W _ => by have := digitsR_any n 4 W (by omega) h (by omega); rwa [last4] at this, fun h W _ => by have := digitsR_any n 2 W (by omega) h (by omega); rwa [last2] at this⟩
theorem add_lists (a b : List UInt8) (h : a.length ≤ 100) (h' : b.length ≤ 100) : AddIs ⟨a.toArray⟩ ⟨b.toArray⟩ ⟨(a ++ b).toArray⟩ := by
  have := addIs ⟨a.toArray⟩ ⟨b.toArray⟩ (by simp [ByteArray.size]; omega)
  rwa [app_list] at this
theorem Okr {c y m d : Int} (h : Ok c y m d) : -9999 ≤ y ∧ y ≤ 9999 ∧ 1 ≤ m ∧ m ≤ 12 ∧ 1 ≤ d ∧ d ≤ 31 := by
  obtain ⟨h1, h2, h3, h4, h5, h6⟩ := h
  have hl : lpn c y ≤ 1 := by unfold lpn; cases lp c y <;> simp
  have : dm c y m ≤ 31 := by unfold dm; repeat' split <;> try omega
  exact ⟨h1, h2, h3, h4, h5, by omega⟩
/-- Both functions that write a date answer alike. -/
theorem fmt_pair (c y m d : Int) (w : World) (htab : Tab w) : ∃ (t : ByteArray) (e : Int), FmtIs 4 w c y m d t e ∧ FmtIs 5 w c y m d t e ∧ (e = 0 → isCal c ∧ Ok c y m d ∧ t.data.toList = dateL y m d) ∧ (isCal c → Ok c y m d → e = 0) := by
  by_cases ha : isCal c
  case neg => exact ⟨⟨#[]⟩, 20, fun W _ => format_nocal c y m d W ha, fun W _ => rformat_nocal c y m d W ha, fun h => by omega, fun h => absurd h ha⟩
  by_cases hok : Ok c y m d
  case neg =>
    have hv : ok c y m d = false := decide_eq_false hok
    exact ⟨⟨#[]⟩, 21, fun W _ => format_bad c y m d W ha (Lib.hid hv), fun W _ => rformat_bad c y m d W ha (Lib.hid (by unfold validV; rw [hv, Bool.and_false])), fun h => by omega, fun _ h => absurd h hok⟩
  have hv : ok c y m d = true := decide_eq_true hok
  have hv2 : validV c y m d = true := by unfold validV; rw [hv, decide_eq_true ha]; rfl
  obtain ⟨r1, r2, r3, r4, r5, r6⟩ := Okr hok
  obtain ⟨M, rfl⟩ : ∃ M : Nat, m = M := ⟨m.toNat, by omega⟩
  obtain ⟨D, rfl⟩ : ∃ D : Nat, d = D := ⟨d.toNat, by omega⟩
  obtain ⟨Y, hY⟩ : ∃ Y : Nat, Y = y.natAbs := ⟨_, rfl⟩
  refine ⟨⟨(dateL y M D).toArray⟩, 0, fun W hW => ?_, fun W hW => ?_, fun _ => ⟨ha, hok, rfl⟩, fun _ _ => rfl⟩
  · have T := htab.below hW
    have p1 := (pad11 Y W T).1 (by omega)
    have p2 := (pad11 M W T).2 (by omega)
    have p3 := (pad11 D W T).2 (by omega)
    by_cases hy : y < 0
    · have e : (Y : Int) = -y := by omega
      rw [e] at p1
      have := format_neg c y M D _ _ _ _ _ _ _ _ W ha (Lib.hid hv) hy r1 (add_lists [45] (dig4 Y) (by simp) (by simp [dig4])) (add_lists _ [45] (by simp [dig4]) (by simp)) (add_lists _ (dig2 M) (by simp [dig4]) (by simp [dig2])) (add_lists _ [45] (by simp [dig4, dig2]) (by simp)) (add_lists _ (dig2 D) (by simp [dig4, dig2]) (by simp [dig2])) (Lib.hid p2) (Lib.hid p3) (Lib.hid p1)
      have eL : [45] ++ dig4 Y ++ [45] ++ dig2 M ++ [45] ++ dig2 D = dateL y M D := by
        unfold dateL signL; rw [if_pos hy, ← hY]; simp
      rw [eL] at this
      exact this
    · have e : (Y : Int) = y := by omega
      rw [e] at p1
      have := format_pos c y M D _ _ _ _ _ _ _ _ W ha (Lib.hid hv) (by omega) r2 (add_lists [] (dig4 Y) (by simp) (by simp [dig4])) (add_lists _ [45] (by simp [dig4]) (by simp)) (add_lists _ (dig2 M) (by simp [dig4]) (by simp [dig2])) (add_lists _ [45] (by simp [dig4, dig2]) (by simp)) (add_lists _ (dig2 D) (by simp [dig4, dig2]) (by simp [dig2])) (Lib.hid p2) (Lib.hid p3) (Lib.hid p1)
      have eL : [] ++ dig4 Y ++ [45] ++ dig2 M ++ [45] ++ dig2 D = dateL y M D := by
        unfold dateL signL; rw [if_neg hy, ← hY]; simp
      rw [eL] at this
      exact this
  · refine rformat_ok c y M D ⟨(dateL y M D).toArray⟩ W ha (Lib.hid hv2) (Lib.hid fun W' hW' => ?_)
    have p1 := (pad30 Y W').1 (by omega)
    have p2 := (pad30 M W').2 (by omega)
    have p3 := (pad30 D W').2 (by omega)
    by_cases hy : y < 0
    · have e : (Y : Int) = -y := by omega
      rw [e] at p1
      have := rtext_neg y M D _ _ _ _ _ _ _ _ W' hy r1 (add_lists [45] (dig4 Y) (by simp) (by simp [dig4])) (add_lists _ [45] (by simp [dig4]) (by simp)) (add_lists _ (dig2 M) (by simp [dig4]) (by simp [dig2])) (add_lists _ [45] (by simp [dig4, dig2]) (by simp)) (add_lists _ (dig2 D) (by simp [dig4, dig2]) (by simp [dig2])) (Lib.hid p2) (Lib.hid p3) (Lib.hid p1)
      have eL : [45] ++ dig4 Y ++ [45] ++ dig2 M ++ [45] ++ dig2 D = dateL y M D := by
        unfold dateL signL; rw [if_pos hy, ← hY]; simp
      rw [eL] at this
      exact this
    · have e : (Y : Int) = y := by omega
      rw [e] at p1
      have := rtext_pos y M D _ _ _ _ _ _ _ _ W' (by omega) r2 (add_lists [] (dig4 Y) (by simp) (by simp [dig4])) (add_lists _ [45] (by simp [dig4]) (by simp)) (add_lists _ (dig2 M) (by simp [dig4]) (by simp [dig2])) (add_lists _ [45] (by simp [dig4, dig2]) (by simp)) (add_lists _ (dig2 D) (by simp [dig4, dig2]) (by simp [dig2])) (Lib.hid p2) (Lib.hid p3) (Lib.hid p1)
      have eL : [] ++ dig4 Y ++ [45] ++ dig2 M ++ [45] ++ dig2 D = dateL y M D := by
        unfold dateL signL; rw [if_neg hy, ← hY]; simp
      rw [eL] at this
      exact this
/-- Both functions that read a date answer alike. -/
theorem par_pair (c : Int) (s : ByteArray) (w : World) : ∃ (y m d e : Int), ParIs 6 w c s y m d e ∧ ParIs 7 w c s y m d e ∧ (e = 0 → isCal c ∧ Ok c y m d ∧ dateL y m d = s.data.toList) ∧ (isCal c → okL s.data.toList = true → Ok c (yearL s.data.toList) (monthL s.data.toList) (dayL s.data.toList) → e = 0 ∧ y = yearL s.data.toList ∧ m = monthL s.data.toList ∧ d = dayL s.data.toList) := by
  by_cases ha : isCal c
  case neg => exact ⟨0, 0, 0, 20, fun W _ => parse_nocal c s W ha, fun W _ => rparse_nocal c s W ha, fun h => by omega, fun h => absurd h ha⟩
  cases hl : okL s.data.toList with
  | false =>
    refine ⟨0, 0, 0, 3, fun W _ => parse_no c s W ha (Lib.hid fun W => read_no s W hl), fun W _ => ?_, fun h => by omega, fun _ h => by cases h⟩
    rcases rparse_split c s W ha with ⟨_, h⟩ | ⟨h, _⟩
    · exact h
    · rw [hl] at h; cases h
  | true =>
    have hrd := Lib.hid (fun W => read_yes s W hl)
    by_cases hok : Ok c (yearL s.data.toList) (monthL s.data.toList) (dayL s.data.toList)
    · refine ⟨_, _, _, 0, fun W _ => parse_ok c s _ _ _ W ha hrd (Lib.hid (decide_eq_true hok)), fun W _ => ?_, fun _ => ⟨ha, hok, date_read hl⟩, fun _ _ _ => ⟨rfl, rfl, rfl, rfl⟩⟩
      rcases rparse_split c s W ha with ⟨h, _⟩ | ⟨_, _, h⟩
      · rw [hl] at h; cases h
      · exact h (by unfold validV; rw [decide_eq_true ha, show ok c _ _ _ = true from decide_eq_true hok]; rfl)
    · refine ⟨0, 0, 0, 21, fun W _ => parse_bad c s _ _ _ W ha hrd (Lib.hid (decide_eq_false hok)), fun W _ => ?_, fun h => by omega, fun _ _ h => absurd h hok⟩
      rcases rparse_split c s W ha with ⟨h, _⟩ | ⟨_, h, _⟩
      · rw [hl] at h; cases h
      · exact h (by unfold validV; rw [show ok c _ _ _ = false from decide_eq_false hok, Bool.and_false])
theorem texts_any (c y m d : Int) (s : ByteArray) (w : World) (htab : Tab w) : Calls Tryd.prog 3 #[.int .i64 c, .agg #[.int .i64 y, .int .i64 m, .int .i64 d], .string s] w (LawPost w) := by
  obtain ⟨t, e, h4, h5, he, -⟩ := fmt_pair c y m d w htab
  obtain ⟨a, b, k, g, h6, h7, hg, -⟩ := par_pair c s w
  have back1 : e = 0 → ParIs 6 w c t y m d 0 := fun h => by
    obtain ⟨ha, hok, ht⟩ := he h
    obtain ⟨y', m', d', e', q1, -, -, q2⟩ := par_pair c t w
    obtain ⟨r1, r2, r3, r4, r5, r6⟩ := Okr hok
    obtain ⟨s1, s2, s3, s4⟩ := read_date y m d r1 r2 r3 (by omega) r5 (by omega)
    rw [ht, s2, s3, s4] at q2
    obtain ⟨rfl, rfl, rfl, rfl⟩ := q2 ha s1 hok
    exact q1
  have back2 : g = 0 → FmtIs 4 w c a b k s 0 := fun h => by
    obtain ⟨ha, hok, hs⟩ := hg h
    obtain ⟨t', e', q1, -, q2, q3⟩ := fmt_pair c a b k w htab
    obtain rfl := q3 ha hok
    have e1 := (q2 rfl).2.2.trans hs
    have : t' = s := by
      apply ByteArray.ext
      exact Array.toList_inj.1 e1
    subst this
    exact q1
  by_cases h0 : e = 0
  · by_cases h1 : g = 0
    · exact texts_yy c y m d a b k e g s t w (Lib.hid h4) (Lib.hid h5) (Lib.hid h6) (Lib.hid h7) (by simpa using h0) (by simpa using h1) (Lib.hid (back1 h0)) (Lib.hid (back2 h1))
    · exact texts_yn c y m d a b k e g s t w (Lib.hid h4) (Lib.hid h5) (Lib.hid h6) (Lib.hid h7) (by simpa using h0) (by simpa using h1) (Lib.hid (back1 h0))
  · by_cases h1 : g = 0
    · exact texts_ny c y m d a b k e g s t w (Lib.hid h4) (Lib.hid h5) (Lib.hid h6) (Lib.hid h7) (by simpa using h0) (by simpa using h1) (Lib.hid (back2 h1))
    · exact texts_nn c y m d a b k e g s t w (Lib.hid h4) (Lib.hid h5) (Lib.hid h6) (Lib.hid h7) (by simpa using h0) (by simpa using h1)
end Go.Proofs.YthpeaeepcbbfcaaDoor
