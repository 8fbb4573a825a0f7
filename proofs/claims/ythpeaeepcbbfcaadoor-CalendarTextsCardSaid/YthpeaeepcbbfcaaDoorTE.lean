/- The texts of dates: read, whatever the text. -/
import Derived.Test.YthpeaeepcbbfcaaDoorTD
namespace Go.Proofs.YthpeaeepcbbfcaaDoor
open Go.RowKit

theorem ext_list (t : List UInt8) (i j : Nat) : ((⟨t.toArray⟩ : ByteArray).extract i j).data.toList = (t.take j).drop i := by
  rw [Lib.extract_data]; simp [List.drop_take]
theorem ext_size (t : List UInt8) (i j : Nat) (h : t.length = 10) (hj : j ≤ 10) : ((⟨t.toArray⟩ : ByteArray).extract i j).size = j - i := by
  show ((⟨t.toArray⟩ : ByteArray).extract i j).data.size = j - i
  rw [← Array.length_toList, ext_list, List.length_drop, List.length_take, h, Nat.min_eq_left hj]
theorem digIs (x : ByteArray) (hs : x.size ≤ 4) : DigIs x (if x.data.toList.all isD then (valL x.data.toList : Int) else 0) (x.data.toList.all isD) := fun W => digits_any x W hs
theorem cutIs (s : ByteArray) : CutIs s ⟨(bodyL s.data.toList).toArray⟩ (negL s.data.toList) := fun W => by
  have h := Tryd.strings_CutPrefix s ⟨#[45]⟩ W
  obtain ⟨h1, h2⟩ := trim_body s.data.toList
  rw [show (⟨#[45]⟩ : ByteArray).data.toList = [45] from rfl, h1, h2] at h
  exact h
theorem byte_at (t : List UInt8) (k : Nat) (h : t.length = 10) (hk : k < 10) (hb : k < (⟨t.toArray⟩ : ByteArray).size) : (⟨t.toArray⟩ : ByteArray)[k] = t.getD k 0 := by
  rw [List.getD_eq_getElem?_getD, List.getElem?_eq_getElem (by omega)]; rfl
theorem ne45 {c : UInt8} (h : c ≠ 45) : ((c.toNat : Int) != 45) = true := by
  simp only [bne_iff_ne, ne_eq]
  intro e
  exact h (UInt8.toNat_inj.1 (by have : (45 : UInt8).toNat = 45 := rfl; omega))
theorem eq45 {c : UInt8} (h : c = 45) : ((c.toNat : Int) != 45) = false := by subst h; rfl

theorem read_split (s : ByteArray) (w : World) :
    (okL s.data.toList = false ∧ Calls Tryd.prog 15 #[.string s] w (NoDate w)) ∨
    (okL s.data.toList = true ∧ Calls Tryd.prog 15 #[.string s] w fun e w' => e = .returned (.tuple #[.agg #[.int .i64 (yearL s.data.toList), .int .i64 (monthL s.data.toList), .int .i64 (dayL s.data.toList)], .bool true]) ∧ Below w.heap.size w w') := by
  have hc := Lib.hid (cutIs s)
  generalize s.data.toList = l at hc
  have hsz : (⟨(bodyL l).toArray⟩ : ByteArray).size = (bodyL l).length := by simp [ByteArray.size]
  by_cases h0 : (bodyL l).length = 10
  case neg =>
    refine .inl ⟨by simp [okL, shapeL, h0], read_len s _ _ w hc ?_⟩
    rw [hsz]; simp; omega
  have hz : (⟨(bodyL l).toArray⟩ : ByteArray).size = 10 := by rw [hsz, h0]
  have b4 := byte_at (bodyL l) 4 h0 (by omega) (by omega)
  have b7 := byte_at (bodyL l) 7 h0 (by omega) (by omega)
  by_cases h4 : (bodyL l).getD 4 0 = 45
  case neg =>
    refine .inl ⟨?_, read_4 s _ _ w hc hz (by rw [b4]; exact ne45 h4)⟩
    unfold okL shapeL; rw [show ((bodyL l).getD 4 0 == 45) = false from by simpa using h4]; simp
  by_cases h7 : (bodyL l).getD 7 0 = 45
  case neg =>
    refine .inl ⟨?_, read_7 s _ _ w hc hz (by rw [b4]; exact eq45 h4) (by rw [b7]; exact ne45 h7)⟩
    unfold okL shapeL; rw [show ((bodyL l).getD 7 0 == 45) = false from by simpa using h7]; simp
  have q4 : (((⟨(bodyL l).toArray⟩ : ByteArray)[4].toNat : Int) != 45) = false := by rw [b4]; exact eq45 h4
  have q7 : (((⟨(bodyL l).toArray⟩ : ByteArray)[7].toNat : Int) != 45) = false := by rw [b7]; exact eq45 h7
  have d1 := digIs ((⟨(bodyL l).toArray⟩ : ByteArray).extract 0 4) (by rw [ext_size _ _ _ h0 (by omega)]; omega)
  have d2 := digIs ((⟨(bodyL l).toArray⟩ : ByteArray).extract 5 7) (by rw [ext_size _ _ _ h0 (by omega)]; omega)
  have d3 := digIs ((⟨(bodyL l).toArray⟩ : ByteArray).extract 8 10) (by rw [ext_size _ _ _ h0 (by omega)]; omega)
  rw [ext_list] at d1 d2 d3
  have e1 : ((bodyL l).take 4).drop 0 = (bodyL l).take 4 := rfl
  have e2 : ((bodyL l).take 7).drop 5 = ((bodyL l).drop 5).take 2 := by rw [List.drop_take]
  have e3 : ((bodyL l).take 10).drop 8 = (bodyL l).drop 8 := by rw [List.take_of_length_le (by omega)]
  rw [e1] at d1
  rw [e2] at d2
  rw [e3] at d3
  have hsh : shapeL (bodyL l) = (((bodyL l).take 4).all isD && ((((bodyL l).drop 5).take 2).all isD && ((bodyL l).drop 8).all isD)) := by
    unfold shapeL; rw [h0, h4, h7]; rfl
  cases a1 : ((bodyL l).take 4).all isD with
  | false =>
    rw [a1] at d1 hsh
    exact .inl ⟨by unfold okL; rw [hsh]; rfl, read_d1 s _ _ _ _ _ _ _ w hc hz q4 q7 (Lib.hid d1) (Lib.hid d2) (Lib.hid d3)⟩
  | true =>
    rw [a1] at d1 hsh
    cases a2 : (((bodyL l).drop 5).take 2).all isD with
    | false =>
      rw [a2] at d2 hsh
      exact .inl ⟨by unfold okL; rw [hsh]; rfl, read_d2 s _ _ _ _ _ _ w hc hz q4 q7 (Lib.hid d1) (Lib.hid d2) (Lib.hid d3)⟩
    | true =>
      rw [a2] at d2 hsh
      cases a3 : ((bodyL l).drop 8).all isD with
      | false =>
        rw [a3] at d3 hsh
        exact .inl ⟨by unfold okL; rw [hsh]; rfl, read_d3 s _ _ _ _ _ w hc hz q4 q7 (Lib.hid d1) (Lib.hid d2) (Lib.hid d3)⟩
      | true =>
        rw [a3] at d3 hsh
        simp only [if_true] at d1 d2 d3
        have hyb : valL ((bodyL l).take 4) ≤ 9999 := val_bd (by rw [List.length_take]; omega) a1
        cases hn : negL l with
        | true =>
          rw [hn] at hc
          by_cases hy : valL ((bodyL l).take 4) = 0
          · refine .inl ⟨by unfold okL zeroNeg; rw [hn, hy]; simp, read_zero s _ _ _ _ w hc hz q4 q7 (Lib.hid d1) (Lib.hid d2) (Lib.hid d3) ?_⟩
            rw [hy]; rfl
          · refine .inr ⟨?_, ?_⟩
            · unfold okL zeroNeg; rw [hsh, hn]; simpa using hy
            · have := read_neg s _ _ _ _ w hc hz q4 q7 (Lib.hid d1) (Lib.hid d2) (Lib.hid d3) (by simpa using fun e : ((valL ((bodyL l).take 4) : Nat) : Int) = 0 => hy (by omega)) (by omega) (by omega)
              unfold yearL monthL dayL
              rw [hn, if_pos rfl]
              exact this
        | false =>
          rw [hn] at hc
          refine .inr ⟨?_, ?_⟩
          · unfold okL zeroNeg; rw [hsh, hn]; rfl
          · have := read_pos s _ _ _ _ w hc hz q4 q7 (Lib.hid d1) (Lib.hid d2) (Lib.hid d3)
            unfold yearL monthL dayL
            rw [hn, if_neg (by decide)]
            exact this
theorem read_no (s : ByteArray) (w : World) (h : okL s.data.toList = false) : Calls Tryd.prog 15 #[.string s] w (NoDate w) := by
  rcases read_split s w with ⟨_, h2⟩ | ⟨h1, _⟩
  · exact h2
  · rw [h] at h1; cases h1
theorem read_yes (s : ByteArray) (w : World) (h : okL s.data.toList = true) : Calls Tryd.prog 15 #[.string s] w fun e w' => e = .returned (.tuple #[.agg #[.int .i64 (yearL s.data.toList), .int .i64 (monthL s.data.toList), .int .i64 (dayL s.data.toList)], .bool true]) ∧ Below w.heap.size w w' := by
  rcases read_split s w with ⟨h1, _⟩ | ⟨_, h2⟩
  · rw [h] at h1; cases h1
  · exact h2
end Go.Proofs.YthpeaeepcbbfcaaDoor
