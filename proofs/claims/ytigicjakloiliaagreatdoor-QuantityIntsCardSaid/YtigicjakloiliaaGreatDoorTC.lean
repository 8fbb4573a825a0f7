/- The law QuantityInts. -/
import Derived.Test.YtigicjakloiliaaGreatDoorTB
import Derived.Test.YtigicjakloiliaaGreatDoorRf
import Derived.Test.YtigicjakloiliaaGreatDoorSB
import Derived.Test.YtigicjakloiliaaGreatDoorPart19
set_option maxHeartbeats 3200000
set_option maxRecDepth 100000
namespace Go.Proofs.YtigicjakloiliaaGreatDoor
open Go.RowKit Big
open Go.Lib
theorem nDigits_le40 {u : Nat} (h : u < 18446744073709551616) : nDigits u ≤ 40 := by
  have := nDigits_le20 u h
  omega
theorem txt_int (n : Int) (h0 : -9223372036854775808 ≤ n) (h1 : n ≤ 9223372036854775807) : txt (n : Rat) = itoa n := by
  rw [txt_eq, Rat.num_intCast, Rat.den_intCast, if_pos ⟨nDigits_le40 (by omega), nDigits_le40 (by omega)⟩]
  unfold wrote itoa
  by_cases h : n < 0
  · simp [h]
  · simp [h]; congr 1; omega
theorem itoa_num (n : Int) (h0 : -9223372036854775808 ≤ n) (h1 : n ≤ 9223372036854775807) : num (itoa n) = some (n : Rat) := by
  rw [← txt_int n h0 h1]
  refine num_txt ?_
  rw [txt_int n h0 h1]
  unfold itoa
  by_cases h : n < 0
  · simp [h]
  · obtain ⟨c, t, e, -, -⟩ := dec_first n.toNat
    simp [h, e]
theorem itoa_small (n : Int) (h0 : -9223372036854775808 ≤ n) (h1 : n ≤ 9223372036854775807) : smallT (itoa n) = if -9007199254740992 ≤ n ∧ n ≤ 9007199254740992 then some n else none := by
  have e : intT 64 (itoa n) = some n := by
    unfold intT
    rw [itoa_num n h0 h1]
    simp only [Rat.num_intCast, Rat.den_intCast, true_and]
    rw [if_pos]
    exact ⟨by show -((9223372036854775808 : Nat) : Int) ≤ n; omega, by show n < ((9223372036854775808 : Nat) : Int); omega⟩
  unfold smallT
  rw [e]
theorem fromInt_any (n : Int) (h0 : Hid (-9223372036854775808 ≤ n ∧ n ≤ 9223372036854775807)) (w : World) (htab : Tab w) : Calls Tryz.prog 24 #[.int .i64 n] w (TxtPost (itoa n) w) := by
  have hi : Hid (Calls Tryz.prog 79 #[.int .i64 n] w fun e w' => e = .returned (.string ⟨(itoa n).toArray⟩) ∧ Below w.heap.size w w') := Lib.hid ((Tryz.strconv_Itoa n h0.out.1 h0.out.2 w htab).mono fun e w' ⟨h1, k, os, h2⟩ => ⟨h1, by rw [h2]; exact Lib.below_grow _ _ (Nat.le_refl _) _ _⟩)
  unfold TxtPost
  generalize (⟨(itoa n).toArray⟩ : ByteArray) = y at hi ⊢
  clear htab h0
  go_enter Tryz.func24, Tryz.ntmps24
  go_wp2_with fail
  refine hi.out.mono ?_
  rintro e w1 ⟨rfl, hb1⟩
  have HB := Lib.hid hb1
  clear hb1
  go_wp2_with fail
  go_ret
  exact ⟨rfl, HB.out⟩
theorem rfromInt_any (n : Int) (h0 : Hid (-9223372036854775808 ≤ n ∧ n ≤ 9223372036854775807)) (w : World) : Calls Tryz.prog 25 #[.int .i64 n] w (TxtPost (itoa n) w) := by
  have h1 := Lib.hid (intq_any n w h0.out.1 h0.out.2)
  have hl : QLt 3 (n : Rat) := ⟨by rw [Rat.num_intCast, B9_eq]; have := h0.out; omega, by rw [Rat.den_intCast, B9_eq]; omega⟩
  have h2 : Hid (∀ W x, QAt W x (n : Rat) → Calls Tryz.prog 80 #[x] W fun e w' => e = .returned (.string ⟨(itoa n).toArray⟩) ∧ Below W.heap.size W w') := Lib.hid fun W x hx => by
    rw [← txt_int n h0.out.1 h0.out.2]; exact put_any x _ 3 W (by omega) hl hx
  unfold TxtPost
  generalize (⟨(itoa n).toArray⟩ : ByteArray) = y at h2 ⊢
  clear hl h0
  go_enter Tryz.func25, Tryz.ntmps25
  go_wp2_with fail
  refine h1.out.mono ?_
  rintro e w1 ⟨x, rfl, hx, hb1⟩
  have h3 := h2.out w1 x hx
  obtain ⟨p3, n3, c3, p4, n4, c4, rfl, -, -⟩ := hx.slices
  generalize decide ((n : Rat).num < 0) = sb at h3 ⊢
  have HB := Lib.hid hb1
  have H3 := Lib.hid h3
  clear hb1 hx h3
  go_wp2_with fail
  refine H3.out.mono ?_
  rintro e w2 ⟨rfl, hb2⟩
  have HB2 := Lib.hid (HB.out.trans (hb2.mono HB.out.size))
  clear hb2
  go_wp2_with fail
  go_ret
  exact ⟨rfl, HB2.out⟩
theorem ints_low (n : Int) (x : ByteArray) (w : World) (g1 : decide (-9007199254740992 ≤ n) = false) (h24 : Hid (Calls Tryz.prog 24 #[.int .i64 n] w fun e w' => e = .returned (.string x) ∧ Below w.heap.size w w'))
    (h21 : Hid (∀ W, Below w.heap.size w W → Calls Tryz.prog 21 #[.string x] W fun e w' => e = .returned (.tuple #[.int .i64 0, .bool false]) ∧ Below W.heap.size W w')) (h25 : Hid (∀ W, Below w.heap.size w W → Calls Tryz.prog 25 #[.int .i64 n] W fun e w' => e = .returned (.string x) ∧ Below W.heap.size W w'))
    (hw : Hid (∀ W, Below w.heap.size w W → Calls Tryz.prog 23 #[] W fun e w' => e = .returned (.bool true) ∧ Below W.heap.size W w')) : Calls Tryz.prog 4 #[.int .i64 n] w fun e w' => e = .returned (.bool true) ∧ Below w.heap.size w w' := by
  go_enter Tryz.func4, Tryz.ntmps4
  go_wp2_with fail
  refine h24.out.mono ?_
  rintro e w1 ⟨rfl, hb⟩
  have B1 := Lib.hid hb
  clear hb
  go_wp2_with fail
  refine (h21.out _ B1.out).mono ?_
  rintro e w2 ⟨rfl, hb⟩
  have B2 := Lib.hid (Below.trans B1.out (hb.mono B1.out.size))
  clear hb
  go_wp2_with fail
  refine (h25.out _ B2.out).mono ?_
  rintro e w3 ⟨rfl, hb⟩
  have B3 := Lib.hid (Below.trans B2.out (hb.mono B2.out.size))
  clear hb
  go_wp2_with fail
  refine (hw.out _ B3.out).mono ?_
  rintro e w4 ⟨rfl, hb⟩
  have B4 := Lib.hid (Below.trans B3.out (hb.mono B3.out.size))
  clear hb
  go_wp2_with fail
  go_ret
  exact ⟨rfl, B4.out⟩
theorem ints_high (n : Int) (x : ByteArray) (w : World) (g1 : decide (-9007199254740992 ≤ n) = true) (g2 : decide (n ≤ 9007199254740992) = false) (h24 : Hid (Calls Tryz.prog 24 #[.int .i64 n] w fun e w' => e = .returned (.string x) ∧ Below w.heap.size w w'))
    (h21 : Hid (∀ W, Below w.heap.size w W → Calls Tryz.prog 21 #[.string x] W fun e w' => e = .returned (.tuple #[.int .i64 0, .bool false]) ∧ Below W.heap.size W w')) (h25 : Hid (∀ W, Below w.heap.size w W → Calls Tryz.prog 25 #[.int .i64 n] W fun e w' => e = .returned (.string x) ∧ Below W.heap.size W w'))
    (hw : Hid (∀ W, Below w.heap.size w W → Calls Tryz.prog 23 #[] W fun e w' => e = .returned (.bool true) ∧ Below W.heap.size W w')) : Calls Tryz.prog 4 #[.int .i64 n] w fun e w' => e = .returned (.bool true) ∧ Below w.heap.size w w' := by
  go_enter Tryz.func4, Tryz.ntmps4
  go_wp2_with fail
  refine h24.out.mono ?_
  rintro e w1 ⟨rfl, hb⟩
  have B1 := Lib.hid hb
  clear hb
  go_wp2_with fail
  refine (h21.out _ B1.out).mono ?_
  rintro e w2 ⟨rfl, hb⟩
  have B2 := Lib.hid (Below.trans B1.out (hb.mono B1.out.size))
  clear hb
  go_wp2_with fail
  refine (h25.out _ B2.out).mono ?_
  rintro e w3 ⟨rfl, hb⟩
  have B3 := Lib.hid (Below.trans B2.out (hb.mono B2.out.size))
  clear hb
  go_wp2_with fail
  refine (hw.out _ B3.out).mono ?_
  rintro e w4 ⟨rfl, hb⟩
  have B4 := Lib.hid (Below.trans B3.out (hb.mono B3.out.size))
  clear hb
  go_wp2_with fail
  go_ret
  exact ⟨rfl, B4.out⟩
theorem ints_in (n : Int) (x : ByteArray) (w : World) (g1 : decide (-9007199254740992 ≤ n) = true) (g2 : decide (n ≤ 9007199254740992) = true) (h24 : Hid (Calls Tryz.prog 24 #[.int .i64 n] w fun e w' => e = .returned (.string x) ∧ Below w.heap.size w w'))
    (h21 : Hid (∀ W, Below w.heap.size w W → Calls Tryz.prog 21 #[.string x] W fun e w' => e = .returned (.tuple #[.int .i64 n, .bool true]) ∧ Below W.heap.size W w')) (h25 : Hid (∀ W, Below w.heap.size w W → Calls Tryz.prog 25 #[.int .i64 n] W fun e w' => e = .returned (.string x) ∧ Below W.heap.size W w'))
    (hw : Hid (∀ W, Below w.heap.size w W → Calls Tryz.prog 23 #[] W fun e w' => e = .returned (.bool true) ∧ Below W.heap.size W w')) : Calls Tryz.prog 4 #[.int .i64 n] w fun e w' => e = .returned (.bool true) ∧ Below w.heap.size w w' := by
  go_enter Tryz.func4, Tryz.ntmps4
  go_wp2_with fail
  refine h24.out.mono ?_
  rintro e w1 ⟨rfl, hb⟩
  have B1 := Lib.hid hb
  clear hb
  go_wp2_with fail
  refine (h21.out _ B1.out).mono ?_
  rintro e w2 ⟨rfl, hb⟩
  have B2 := Lib.hid (Below.trans B1.out (hb.mono B1.out.size))
  clear hb
  go_wp2_with fail
  refine (h25.out _ B2.out).mono ?_
  rintro e w3 ⟨rfl, hb⟩
  have B3 := Lib.hid (Below.trans B2.out (hb.mono B2.out.size))
  clear hb
  go_wp2_with fail
  refine (hw.out _ B3.out).mono ?_
  rintro e w4 ⟨rfl, hb⟩
  have B4 := Lib.hid (Below.trans B3.out (hb.mono B3.out.size))
  clear hb
  go_wp2_with fail
  go_ret
  exact ⟨rfl, B4.out⟩
theorem ints_any (n : Int) (h0 : -9223372036854775808 ≤ n) (h1 : n ≤ 9223372036854775807) (w : World) (h : Env w) : Calls Tryz.prog 4 #[.int .i64 n] w fun e w' => e = .returned (.bool true) ∧ Below w.heap.size w w' := by
  have h24 := Lib.hid (fromInt_any n (Lib.hid ⟨h0, h1⟩) w h.tab)
  have h21 := fun W (hW : Below w.heap.size w W) => pint_any ⟨(itoa n).toArray⟩ W (h.below hW)
  have h25 := Lib.hid (fun W (_ : Below w.heap.size w W) => rfromInt_any n (Lib.hid ⟨h0, h1⟩) W)
  have hw := Lib.hid (fun W (hW : Below w.heap.size w W) => awake_any W (h.below hW).tab)
  have es : smallT (⟨(itoa n).toArray⟩ : ByteArray).data.toList = smallT (itoa n) := rfl
  rw [es, itoa_small n h0 h1] at h21
  by_cases g1 : -9007199254740992 ≤ n
  · by_cases g2 : n ≤ 9007199254740992
    · rw [if_pos ⟨g1, g2⟩] at h21
      exact ints_in n _ w (by simpa using g1) (by simpa using g2) h24 (Lib.hid h21) h25 hw
    · rw [if_neg (by omega)] at h21
      exact ints_high n _ w (by simpa using g1) (by simpa using g2) h24 (Lib.hid h21) h25 hw
  · rw [if_neg (by omega)] at h21
    exact ints_low n _ w (by simpa using g1) h24 (Lib.hid h21) h25 hw
end Go.Proofs.YtigicjakloiliaaGreatDoor
