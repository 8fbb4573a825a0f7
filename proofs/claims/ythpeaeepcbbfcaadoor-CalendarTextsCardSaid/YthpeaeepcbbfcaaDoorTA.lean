/- The texts of dates: plain lists of bytes. -/
import Derived.Lib.Strings
namespace Go.Proofs.YthpeaeepcbbfcaaDoor

def isD (c : UInt8) : Bool := decide (48 ≤ c.toNat) && decide (c.toNat ≤ 57)
/-- The number of digits. -/
def valL (l : List UInt8) : Nat := l.foldl (fun a c => a * 10 + (c.toNat - 48)) 0
def dg (n : Nat) : UInt8 := UInt8.ofNat (48 + n % 10)
def dig2 (n : Nat) : List UInt8 := [dg (n / 10), dg n]
def dig4 (n : Nat) : List UInt8 := [dg (n / 1000), dg (n / 100), dg (n / 10), dg n]
def signL (y : Int) : List UInt8 := if y < 0 then [45] else []
/-- The text of a date. -/
def dateL (y m d : Int) : List UInt8 := signL y ++ (dig4 y.natAbs ++ 45 :: (dig2 m.toNat ++ 45 :: dig2 d.toNat))
def negL (l : List UInt8) : Bool := match l with | [] => false | c :: _ => c == 45
def bodyL (l : List UInt8) : List UInt8 := if negL l then l.drop 1 else l
/-- The form of a date without sign. -/
def shapeL (t : List UInt8) : Bool := t.length == 10 && (t.getD 4 0 == 45 && (t.getD 7 0 == 45 && ((t.take 4).all isD && (((t.drop 5).take 2).all isD && (t.drop 8).all isD))))
def zeroNeg (l : List UInt8) : Bool := negL l && valL ((bodyL l).take 4) == 0
/-- What is read, where the form is right. -/
def yearL (l : List UInt8) : Int := if negL l then -(valL ((bodyL l).take 4) : Int) else (valL ((bodyL l).take 4) : Int)
def monthL (l : List UInt8) : Int := (valL (((bodyL l).drop 5).take 2) : Int)
def dayL (l : List UInt8) : Int := (valL ((bodyL l).drop 8) : Int)
def okL (l : List UInt8) : Bool := shapeL (bodyL l) && !zeroNeg l

theorem dg_toNat (n : Nat) : (dg n).toNat = 48 + n % 10 := by
  unfold dg
  rw [UInt8.toNat_ofNat']
  omega
theorem dg_isD (n : Nat) : isD (dg n) = true := by
  unfold isD; rw [dg_toNat]; simp; omega
theorem isD_iff {c : UInt8} : isD c = true ↔ 48 ≤ c.toNat ∧ c.toNat ≤ 57 := by unfold isD; simp
theorem dg_of {c : UInt8} {n : Nat} (h : isD c = true) (hn : n % 10 = c.toNat - 48) : dg n = c := by
  obtain ⟨h1, h2⟩ := isD_iff.1 h
  apply UInt8.toNat_inj.1
  rw [dg_toNat]; omega
theorem val2 (a b : UInt8) : valL [a, b] = (a.toNat - 48) * 10 + (b.toNat - 48) := by simp [valL]
theorem val4 (a b c d : UInt8) : valL [a, b, c, d] = (((a.toNat - 48) * 10 + (b.toNat - 48)) * 10 + (c.toNat - 48)) * 10 + (d.toNat - 48) := by simp [valL]
theorem val_dig2 (n : Nat) (h : n < 100) : valL (dig2 n) = n := by unfold dig2; rw [val2, dg_toNat, dg_toNat]; omega
theorem val_dig4 (n : Nat) (h : n < 10000) : valL (dig4 n) = n := by unfold dig4; rw [val4, dg_toNat, dg_toNat, dg_toNat, dg_toNat]; omega
theorem dig2_val {a b : UInt8} (ha : isD a = true) (hb : isD b = true) : dig2 (valL [a, b]) = [a, b] := by
  rw [val2]; unfold dig2
  obtain ⟨h1, h2⟩ := isD_iff.1 ha
  obtain ⟨h3, h4⟩ := isD_iff.1 hb
  rw [dg_of ha (by omega), dg_of hb (by omega)]
theorem dig4_val {a b c d : UInt8} (ha : isD a = true) (hb : isD b = true) (hc : isD c = true) (hd : isD d = true) : dig4 (valL [a, b, c, d]) = [a, b, c, d] := by
  rw [val4]; unfold dig4
  obtain ⟨h1, h2⟩ := isD_iff.1 ha
  obtain ⟨h3, h4⟩ := isD_iff.1 hb
  obtain ⟨h5, h6⟩ := isD_iff.1 hc
  obtain ⟨h7, h8⟩ := isD_iff.1 hd
  rw [dg_of ha (by omega), dg_of hb (by omega), dg_of hc (by omega), dg_of hd (by omega)]

theorem dg_ne (n : Nat) : (dg n == 45) = false := by
  have h := dg_toNat n
  cases e : (dg n == 45) with
  | false => rfl
  | true =>
    have e2 : dg n = 45 := eq_of_beq e
    rw [e2] at h
    have : (45 : UInt8).toNat = 45 := rfl
    omega
theorem neg_date (y m d : Int) : negL (dateL y m d) = decide (y < 0) := by
  unfold dateL signL
  by_cases h : y < 0
  · rw [if_pos h]; simp [negL, h]
  · rw [if_neg h]; simp [negL, h, dig4, dg_ne]
theorem body_date (y m d : Int) : bodyL (dateL y m d) = dig4 y.natAbs ++ 45 :: (dig2 m.toNat ++ 45 :: dig2 d.toNat) := by
  unfold bodyL
  rw [neg_date]
  unfold dateL signL
  by_cases h : y < 0
  · simp [h]
  · simp [h]
/-- The text of a date is read as the date. -/
theorem read_date (y m d : Int) (y0 : -9999 ≤ y) (y1 : y ≤ 9999) (m0 : 1 ≤ m) (m1 : m ≤ 99) (d0 : 1 ≤ d) (d1 : d ≤ 99) : okL (dateL y m d) = true ∧ yearL (dateL y m d) = y ∧ monthL (dateL y m d) = m ∧ dayL (dateL y m d) = d := by
  have hy : valL ((bodyL (dateL y m d)).take 4) = y.natAbs := by
    rw [body_date]
    show valL (dig4 y.natAbs) = _
    exact val_dig4 _ (by omega)
  refine ⟨?_, ?_, ?_, ?_⟩
  · unfold okL zeroNeg
    rw [neg_date, hy, body_date, Bool.and_eq_true]
    constructor
    · simp [shapeL, dig4, dig2, dg_isD]
    · simp; omega
  · unfold yearL
    rw [neg_date, hy]
    by_cases h : y < 0
    · simp [h]; omega
    · simp [h]; omega
  · unfold monthL
    rw [body_date]
    show ((valL (dig2 m.toNat) : Nat) : Int) = m
    rw [val_dig2 _ (by omega)]; omega
  · unfold dayL
    rw [body_date]
    show ((valL (dig2 d.toNat) : Nat) : Int) = d
    rw [val_dig2 _ (by omega)]; omega
theorem list10 {t : List UInt8} (h : t.length = 10) : ∃ a b c d e f g i j k, t = [a, b, c, d, e, f, g, i, j, k] := by
  match t, h with
  | [a, b, c, d, e, f, g, i, j, k], _ => exact ⟨a, b, c, d, e, f, g, i, j, k, rfl⟩
/-- A text that is read is the text of what is read. -/
theorem date_read {l : List UInt8} (h : okL l = true) : dateL (yearL l) (monthL l) (dayL l) = l := by
  unfold okL at h
  rw [Bool.and_eq_true] at h
  obtain ⟨hs, hz⟩ := h
  unfold shapeL at hs
  simp only [Bool.and_eq_true, beq_iff_eq] at hs
  obtain ⟨hlen, h4, h7, hA, hB, hC⟩ := hs
  obtain ⟨a, b, c, d, e, f, g, i, j, k, ht⟩ := list10 hlen
  have hlt := ht
  rw [ht] at h4 h7 hA hB hC
  simp at h4 h7 hA hB hC
  obtain ⟨a1, a2, a3, a4⟩ := hA
  obtain ⟨b1, b2⟩ := hB
  obtain ⟨c1, c2⟩ := hC
  subst h4 h7
  obtain ⟨Y, hY⟩ : ∃ Y, valL ((bodyL l).take 4) = Y := ⟨_, rfl⟩
  have e1 : dig4 Y = [a, b, c, d] := by rw [← hY, ht]; exact dig4_val a1 a2 a3 a4
  have e2 : dig2 (monthL l).toNat = [f, g] := by
    unfold monthL; rw [ht]; exact dig2_val b1 b2
  have e3 : dig2 (dayL l).toNat = [j, k] := by
    unfold dayL; rw [ht]; exact dig2_val c1 c2
  unfold zeroNeg at hz
  rw [hY] at hz
  unfold dateL
  rw [e2, e3]
  unfold yearL signL
  rw [hY]
  unfold bodyL at ht
  cases hn : negL l with
  | true =>
    rw [hn] at hz ht
    simp at hz
    have h0 : (-(Y : Int)) < 0 := by omega
    rw [if_pos rfl, if_pos h0, show (-(Y : Int)).natAbs = Y by omega, e1]
    cases l with
    | nil => cases hn
    | cons x l' =>
      have : x = 45 := by simpa [negL] using hn
      subst this
      simp at ht
      rw [ht]; rfl
  | false =>
    rw [hn] at ht
    simp only [Bool.false_eq_true, if_false] at ht ⊢
    rw [if_neg (by omega), show ((Y : Int)).natAbs = Y from rfl, e1, ht]
    rfl
theorem val_bd2 (a b : UInt8) (ha : isD a = true) (hb : isD b = true) : valL [a, b] ≤ 99 := by
  obtain ⟨h1, h2⟩ := isD_iff.1 ha
  obtain ⟨h3, h4⟩ := isD_iff.1 hb
  rw [val2]; omega
end Go.Proofs.YthpeaeepcbbfcaaDoor
