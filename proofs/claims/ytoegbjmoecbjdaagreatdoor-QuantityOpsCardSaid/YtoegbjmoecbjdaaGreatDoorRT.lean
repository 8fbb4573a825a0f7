/- The document's plain: what it returns. -/
import Derived.Test.YtoegbjmoecbjdaaGreatDoorRR
namespace Go.Proofs.YtoegbjmoecbjdaaGreatDoor
open Go.RowKit Big
open Go.Lib
theorem cut_cases (l : List UInt8) (x : UInt8) : (x ∉ l ∧ Lib.cut l [x] = (l, [], false)) ∨ ∃ a b, l = a ++ x :: b ∧ x ∉ a ∧ Lib.cut l [x] = (a, b, true) := by
  by_cases h : x ∈ l
  · obtain ⟨a, b, e, ha⟩ := List.eq_append_cons_of_mem h
    exact .inr ⟨a, b, e, ha, by rw [e]; exact cut_at ha⟩
  · exact .inl ⟨h, cut_none h⟩
theorem tw_split {a b : List UInt8} {x : UInt8} (ha : a.all isDig = true) (hx : isDig x = false) : (a ++ x :: b).takeWhile isDig = a := by
  induction a with
  | nil => simp [hx]
  | cons y l ih =>
    rw [List.all_cons, Bool.and_eq_true] at ha
    simp [ha.1, ih ha.2]
theorem first_non {a b c d : List UInt8} {x y : UInt8} (ha : a.all isDig = true) (hx : isDig x = false) (hc : c.all isDig = true) (hy : isDig y = false) (h : a ++ x :: b = c ++ y :: d) : a = c ∧ x = y ∧ b = d := by
  have h1 := tw_split (b := b) ha hx
  have h2 := tw_split (b := d) hc hy
  rw [h, h2] at h1
  subst h1
  have := List.append_cancel_left h
  simp at this
  exact ⟨rfl, this.1, this.2⟩
theorem allDig_false_of {l : List UInt8} {x : UInt8} (hx : x ∈ l) (hn : isDig x = false) : allDig l = false := by
  have : l.all isDig = false := by rw [List.all_eq_false]; exact ⟨x, hx, by simp [hn]⟩
  simp [allDig, this]
theorem readAbs_split (hd mo : List UInt8) (c : UInt8) (hh : hd.all isDig = true) (hc : isDig c = false) :
    readAbs (hd ++ c :: mo) = if c = 46 then (if allDig hd && allDig mo then some (dval (hd ++ mo), 10 ^ mo.length) else none) else if c = 47 then (if allDig hd && allDig mo && !(dval mo == 0) then some (dval hd, dval mo) else none) else none := by
  have k1 : isDig 46 = false := by decide
  have k2 : isDig 47 = false := by decide
  unfold readAbs
  by_cases h46 : c = 46
  · subst h46
    rw [if_pos rfl, cut_at (isDig_ne hh k1)]
    rfl
  · rw [if_neg h46]
    rcases cut_cases (hd ++ c :: mo) 46 with ⟨hn, e⟩ | ⟨a, b, e, hna, e2⟩
    · rw [e]
      simp only [Bool.false_eq_true, if_false]
      by_cases h47 : c = 47
      · subst h47
        rw [if_pos rfl, cut_at (isDig_ne hh k2)]
        rfl
      · rw [if_neg h47]
        rcases cut_cases (hd ++ c :: mo) 47 with ⟨hn2, e3⟩ | ⟨a, b, e3, hna, e4⟩
        · rw [e3]
          simp only [Bool.false_eq_true, if_false]
          rw [allDig_false_of (x := c) (by simp) hc]; rfl
        · rw [e4]
          have : allDig a = false := by
            cases h : allDig a with
            | false => rfl
            | true =>
              have := first_non hh hc (allDig_all h) k2 e3
              exact absurd this.2.1 h47
          rw [this]; rfl
    · rw [e2]
      have h1 : allDig a = false := by
        cases h : allDig a with
        | false => rfl
        | true =>
          have := first_non hh hc (allDig_all h) k1 e
          exact absurd this.2.1 h46
      have h2 : allDig mo = false := by
        have hm : (46 : UInt8) ∈ hd ++ c :: mo := by rw [e]; simp
        have : (46 : UInt8) ∈ mo := by
          rcases List.mem_append.1 hm with h | h
          · exact absurd h (isDig_ne hh k1)
          · rcases List.mem_cons.1 h with h | h
            · exact absurd h.symm h46
            · exact h
        exact allDig_false_of this k1
      rw [h1, h2]
      simp
theorem readAbs_digits (l : List UInt8) (h : allDig l = true) : readAbs l = some (dval l, 1) := by
  have h1 := allDig_all h
  unfold readAbs
  rw [cut_none (isDig_ne h1 (by decide)), cut_none (isDig_ne h1 (by decide))]
  simp [h]
theorem cnt_split (l : List UInt8) (h : cntD l < l.length) : ∃ (hd mo : List UInt8) (c : UInt8), l = hd ++ c :: mo ∧ hd.length = cntD l ∧ hd.all isDig = true ∧ isDig c = false ∧ hd = l.take (cntD l) ∧ mo = l.drop (cntD l + 1) ∧ l[cntD l]? = some c := by
  have h1 : l.takeWhile isDig ++ l.dropWhile isDig = l := List.takeWhile_append_dropWhile
  cases hdw : l.dropWhile isDig with
  | nil => rw [hdw, List.append_nil] at h1; unfold cntD at h; rw [h1] at h; omega
  | cons c mo =>
    rw [hdw] at h1
    have hc : isDig c = false := by
      have := List.head?_dropWhile_not isDig l
      rw [hdw] at this
      simpa using this
    have ha : (l.takeWhile isDig).all isDig = true := List.all_takeWhile
    have hcn : cntD l = (l.takeWhile isDig).length := rfl
    rw [hcn]
    generalize l.takeWhile isDig = hd at h1 ha
    subst h1
    exact ⟨hd, mo, c, rfl, rfl, ha, hc, by simp, by simp, by simp⟩
theorem cnt_all (l : List UInt8) : cntD l = l.length ↔ l.all isDig = true := by
  unfold cntD
  constructor
  · intro h
    have h1 : l.takeWhile isDig = l := List.IsPrefix.eq_of_length (List.takeWhile_prefix isDig) h
    rw [← h1]; exact List.all_takeWhile
  · intro h
    have : l.takeWhile isDig = l := by
      have := tw_len isDig l l.length (Nat.le_refl _) (by rw [List.take_length]; exact h) (.inl rfl)
      exact List.IsPrefix.eq_of_length (List.takeWhile_prefix isDig) this
    rw [this]
end Go.Proofs.YtoegbjmoecbjdaaGreatDoor
