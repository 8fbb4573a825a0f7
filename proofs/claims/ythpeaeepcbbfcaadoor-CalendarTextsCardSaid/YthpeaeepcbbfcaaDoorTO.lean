/- The texts of dates: the document's Parse, whatever the text. -/
import Derived.Test.YthpeaeepcbbfcaaDoorTK
import Derived.Test.YthpeaeepcbbfcaaDoorTL
import Derived.Test.YthpeaeepcbbfcaaDoorTM
import Derived.Test.YthpeaeepcbbfcaaDoorTZ
namespace Go.Proofs.YthpeaeepcbbfcaaDoor
open Go.RowKit

theorem shape_iff {t : List UInt8} (h : t.length = 10) : shapeL t = true ↔ ∀ j, j < 10 → okAt t j = true := by
  obtain ⟨a, b, c, d, e, f, g, i, j, k, rfl⟩ := list10 h
  constructor
  · intro hs n hn
    have hn' : n = 0 ∨ n = 1 ∨ n = 2 ∨ n = 3 ∨ n = 4 ∨ n = 5 ∨ n = 6 ∨ n = 7 ∨ n = 8 ∨ n = 9 := by omega
    simp [shapeL] at hs
    obtain ⟨h4, h7, ⟨p0, p1, p2, p3⟩, ⟨p5, p6⟩, p8, p9⟩ := hs
    rcases hn' with rfl | rfl | rfl | rfl | rfl | rfl | rfl | rfl | rfl | rfl <;> simp [okAt, *]
  · intro hall
    have q0 := hall 0 (by omega)
    have q1 := hall 1 (by omega)
    have q2 := hall 2 (by omega)
    have q3 := hall 3 (by omega)
    have q4 := hall 4 (by omega)
    have q5 := hall 5 (by omega)
    have q6 := hall 6 (by omega)
    have q7 := hall 7 (by omega)
    have q8 := hall 8 (by omega)
    have q9 := hall 9 (by omega)
    simp [okAt] at q0 q1 q2 q3 q4 q5 q6 q7 q8 q9
    simp [shapeL, *]
theorem bad_of {t : List UInt8} (h : t.length = 10) (hs : shapeL t = false) : ∃ j, j < 10 ∧ okAt t j = false := by
  refine Classical.byContradiction fun hno => ?_
  have : shapeL t = true := (shape_iff h).2 fun j hj => by
    cases e : okAt t j with
    | true => rfl
    | false => exact absurd ⟨j, hj, e⟩ hno
  rw [hs] at this; cases this
/-- What the document's Parse returns where there is no date. -/
def NoPar (e : Int) (w : World) (z : Ending) (w' : World) : Prop := z = .returned (.tuple #[.agg #[.int .i64 0, .int .i64 0, .int .i64 0], .int .i64 e]) ∧ Below w.heap.size w w'
def YesPar (y m d : Int) (w : World) (z : Ending) (w' : World) : Prop := z = .returned (.tuple #[.agg #[.int .i64 y, .int .i64 m, .int .i64 d], .int .i64 0]) ∧ Below w.heap.size w w'
/-- The digits of a body of the right form. -/
theorem vals_of (b : ByteArray) (t : List UInt8) (hb : b.data.toList = t) (h : t.length = 10) (hs : shapeL t = true) :
    ValIs (b.extract 0 4) (valL (t.take 4) : Int) ∧ ValIs (b.extract 5 7) (valL ((t.drop 5).take 2) : Int) ∧ ValIs (b.extract 8 10) (valL (t.drop 8) : Int) ∧ valL (t.take 4) ≤ 9999 := by
  have hbt : b = ⟨t.toArray⟩ := by rw [← hb]
  subst hbt
  unfold shapeL at hs
  simp only [Bool.and_eq_true, beq_iff_eq] at hs
  obtain ⟨-, -, -, hA, hB, hC⟩ := hs
  have one : ∀ i j, j ≤ 10 → j - i ≤ 4 → ((t.take j).drop i).all isD = true → ValIs ((⟨t.toArray⟩ : ByteArray).extract i j) (valL ((t.take j).drop i) : Int) := fun i j hj hij ha W => by
    have := value_any ((⟨t.toArray⟩ : ByteArray).extract i j) W (by rw [ext_size _ _ _ h hj]; exact hij) (by rw [ext_list]; exact ha)
    rw [ext_list] at this
    exact this.mono fun e w' ⟨h1, h2⟩ => ⟨h1, h2.symm⟩
  have e2 : (t.take 7).drop 5 = (t.drop 5).take 2 := by rw [List.drop_take]
  have e3 : (t.take 10).drop 8 = t.drop 8 := by rw [List.take_of_length_le (by omega)]
  have o2 := one 5 7 (by omega) (by omega) (by rw [e2]; exact hB)
  have o3 := one 8 10 (by omega) (by omega) (by rw [e3]; exact hC)
  rw [e2] at o2
  rw [e3] at o3
  exact ⟨one 0 4 (by omega) (by omega) hA, o2, o3, val_bd (by rw [List.length_take]; omega) hA⟩

theorem rparse_split (c : Int) (s : ByteArray) (w : World) (ha : isCal c) :
    (okL s.data.toList = false ∧ Calls Tryd.prog 7 #[.int .i64 c, .string s] w (NoPar 3 w)) ∨
    (okL s.data.toList = true ∧ (validV c (yearL s.data.toList) (monthL s.data.toList) (dayL s.data.toList) = false → Calls Tryd.prog 7 #[.int .i64 c, .string s] w (NoPar 21 w)) ∧
      (validV c (yearL s.data.toList) (monthL s.data.toList) (dayL s.data.toList) = true → Calls Tryd.prog 7 #[.int .i64 c, .string s] w (YesPar (yearL s.data.toList) (monthL s.data.toList) (dayL s.data.toList) w))) := by
  by_cases hz0 : s.size = 0
  · refine .inl ⟨?_, rparse_empty c s w ha hz0⟩
    have : s.data.toList = [] := List.length_eq_zero_iff.1 (by simpa using hz0)
    rw [this]; rfl
  have h0 : (0 : Int) < s.size := by omega
  have hs0 : 0 < s.size := by omega
  have hbk := byte_of s 0 hs0
  obtain ⟨l, hl⟩ : ∃ l, s.data.toList = l := ⟨_, rfl⟩
  have hneg : negL l = (s[0] == 45) := by
    rw [hl] at hbk
    cases l with
    | nil => exfalso; have : s.data.toList.length = 0 := by rw [hl]; rfl
             have : s.size = 0 := by simpa using this
             omega
    | cons x l' => have : x = s[0] := by simpa using hbk
                   rw [← this]; rfl
  by_cases hc : s[0] = 45
  · have hn : negL l = true := by rw [hneg, hc]; rfl
    have q0 : ((s[0].toNat : Int) == 45) = true := by rw [hc]; rfl
    obtain ⟨b, hb⟩ : ∃ b, s.extract 1 s.size = b := ⟨_, rfl⟩
    have hbl : b.data.toList = bodyL l := by
      unfold bodyL
      rw [hn, if_pos rfl, ← hb, Lib.extract_data, ← hl]
      simp [List.take_of_length_le]
    have hsz : b.size = (bodyL l).length := by rw [← hbl]; simp
    rw [hl]
    by_cases h10 : (bodyL l).length = 10
    case neg => exact .inl ⟨by simp [okL, shapeL, h10], rparse_len_n c s b w ha h0 q0 hb (by rw [hsz]; simp; omega)⟩
    have hz : b.size = 10 := by rw [hsz, h10]
    cases hsh : shapeL (bodyL l) with
    | false => exact .inl ⟨by simp [okL, hsh], rparse_bad_n c s b w ha h0 q0 hb hz (Lib.hid (by rw [hbl]; exact bad_of h10 hsh))⟩
    | true =>
      obtain ⟨v1, v2, v3, vb⟩ := vals_of b _ hbl h10 hsh
      have hall := Lib.hid ((shape_iff h10).1 hsh)
      rw [← hbl] at hall
      by_cases hy : valL ((bodyL l).take 4) = 0
      · rw [hy] at v1
        exact .inl ⟨by simp [okL, hsh, zeroNeg, hn, hy], rparse_zero_n c s b _ _ w ha h0 q0 hb hz hall (Lib.hid v1) (Lib.hid v2) (Lib.hid v3)⟩
      · have hy2 : (((valL ((bodyL l).take 4) : Nat) : Int) == 0) = false := by simpa using hy
        have ey : yearL l = -(valL ((bodyL l).take 4) : Int) := by unfold yearL; rw [hn, if_pos rfl]
        rw [ey]
        unfold monthL dayL
        exact .inr ⟨by simp [okL, hsh, zeroNeg, hn, hy], fun hv => rparse_inval_n c s b _ _ _ w ha h0 q0 hb hz hall (by omega) (by omega) (Lib.hid v1) (Lib.hid v2) (Lib.hid v3) hy2 (Lib.hid hv), fun hv => rparse_ok_n c s b _ _ _ w ha h0 q0 hb hz hall (by omega) (by omega) (Lib.hid v1) (Lib.hid v2) (Lib.hid v3) hy2 (Lib.hid hv)⟩
  · have hn : negL l = false := by rw [hneg]; simpa using hc
    have q0 : ((s[0].toNat : Int) == 45) = false := by
      have := ne45 hc
      simpa using this
    have hbl : bodyL l = l := by unfold bodyL; rw [hn]; rfl
    have hsz : s.size = l.length := by rw [← hl]; simp
    rw [hl]
    by_cases h10 : l.length = 10
    case neg => exact .inl ⟨by simp [okL, shapeL, hbl, h10], rparse_len_p c s w ha h0 q0 (by rw [hsz]; simp; omega)⟩
    have hz : s.size = 10 := by rw [hsz, h10]
    cases hsh : shapeL l with
    | false => exact .inl ⟨by simp [okL, hbl, hsh], rparse_bad_p c s w ha h0 q0 hz (Lib.hid (by rw [hl]; exact bad_of h10 hsh))⟩
    | true =>
      obtain ⟨v1, v2, v3, vb⟩ := vals_of s _ hl h10 hsh
      have hall := Lib.hid ((shape_iff h10).1 hsh)
      rw [← hl] at hall
      have ey : yearL l = (valL (l.take 4) : Int) := by unfold yearL; rw [hn, if_neg (by decide), hbl]
      rw [ey]
      unfold monthL dayL
      rw [hbl]
      exact .inr ⟨by simp [okL, hbl, hsh, zeroNeg, hn], fun hv => rparse_inval_p c s _ _ _ w ha h0 q0 hz hall (by omega) (by omega) (Lib.hid v1) (Lib.hid v2) (Lib.hid v3) (Lib.hid hv), fun hv => rparse_ok_p c s _ _ _ w ha h0 q0 hz hall (by omega) (by omega) (Lib.hid v1) (Lib.hid v2) (Lib.hid v3) (Lib.hid hv)⟩
end Go.Proofs.YthpeaeepcbbfcaaDoor
