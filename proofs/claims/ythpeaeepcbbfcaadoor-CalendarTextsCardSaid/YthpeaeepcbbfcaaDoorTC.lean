/- The texts of dates: padded. -/
import Derived.Test.YthpeaeepcbbfcaaDoorTB
import Derived.Test.YthpeaeepcbbfcaaDoorShelf
import Derived.Lib.AppendIntMem
namespace Go.Proofs.YthpeaeepcbbfcaaDoor
open Go.RowKit

/-- The table of the powers of 10 lies where it should. -/
def Tab (w : World) : Prop := Lib.TabIs Tryd.prog w "internal/strconv.uint64pow10" .u64 Lib.pow10Tab
theorem dec_lt {n : Nat} (h : n < 10) : Lib.decDigits n = [dg n] := by
  rw [Lib.decDigits, dif_pos h]; unfold dg; rw [Nat.mod_eq_of_lt h]
theorem dec_ge {n : Nat} (h : 10 ≤ n) : Lib.decDigits n = Lib.decDigits (n / 10) ++ [dg n] := by
  rw [Lib.decDigits, dif_neg (by omega)]; rfl
theorem dg_zero {n : Nat} (h : n % 10 = 0) : dg n = 48 := by unfold dg; rw [h]; rfl
/-- The digits of a number below 10000, with zeros in front. -/
theorem dec4 (n : Nat) (h : n < 10000) : ∃ j, j ≤ 4 ∧ (Lib.decDigits n).length = j ∧ List.replicate (4 - j) 48 ++ Lib.decDigits n = dig4 n := by
  by_cases h1 : n < 10
  · refine ⟨1, by omega, by rw [dec_lt h1]; rfl, ?_⟩
    rw [dec_lt h1]; unfold dig4
    rw [dg_zero (n := n / 1000) (by omega), dg_zero (n := n / 100) (by omega), dg_zero (n := n / 10) (by omega)]; rfl
  · by_cases h2 : n < 100
    · refine ⟨2, by omega, by rw [dec_ge (by omega), dec_lt (by omega)]; rfl, ?_⟩
      rw [dec_ge (by omega), dec_lt (by omega)]; unfold dig4
      rw [dg_zero (n := n / 1000) (by omega), dg_zero (n := n / 100) (by omega)]; rfl
    · by_cases h3 : n < 1000
      · refine ⟨3, by omega, by rw [dec_ge (by omega), dec_ge (by omega), dec_lt (by omega)]; rfl, ?_⟩
        rw [dec_ge (by omega), dec_ge (by omega), dec_lt (by omega), Nat.div_div_eq_div_mul]; unfold dig4
        rw [dg_zero (n := n / 1000) (by omega)]; rfl
      · refine ⟨4, by omega, by rw [dec_ge (by omega), dec_ge (by omega), dec_ge (by omega), dec_lt (by omega)]; rfl, ?_⟩
        rw [dec_ge (by omega), dec_ge (by omega), dec_ge (by omega), dec_lt (by omega)]; simp only [Nat.div_div_eq_div_mul]; rfl
theorem dec2 (n : Nat) (h : n < 100) : ∃ j, j ≤ 2 ∧ (Lib.decDigits n).length = j ∧ List.replicate (2 - j) 48 ++ Lib.decDigits n = dig2 n := by
  by_cases h1 : n < 10
  · refine ⟨1, by omega, by rw [dec_lt h1]; rfl, ?_⟩
    rw [dec_lt h1]; unfold dig2
    rw [dg_zero (n := n / 10) (by omega)]; rfl
  · refine ⟨2, by omega, by rw [dec_ge (by omega), dec_lt (by omega)]; rfl, ?_⟩
    rw [dec_ge (by omega), dec_lt (by omega)]; rfl
theorem below_grow (w : World) (n : Nat) (os : Array Obj) : Below w.heap.size w (Go.Sort.grow (w.drewN n) os) :=
  ⟨rfl, rfl, rfl, by show w.heap.size ≤ (w.heap ++ os).size; rw [Array.size_append]; omega, fun _ hj => Go.Sort.heap_grow_old (w.drewN n) os hj⟩
theorem itoa_is (n : Nat) (w : World) (hn : n < 10000) (htab : Tab w) : Calls Tryd.prog 27 #[.int .i64 (n : Int)] w fun e w' => e = .returned (.string ⟨(Lib.decDigits n).toArray⟩) ∧ Below w.heap.size w w' := by
  refine (Tryd.strconv_Itoa (n : Int) (by omega) (by omega) w htab).mono fun e w' h => ?_
  obtain ⟨h1, k, os, h2⟩ := h
  rw [Lib.itoa_nonneg] at h1
  subst h2
  exact ⟨h1, below_grow _ _ _⟩
theorem repeat_is (c : Nat) (w : World) (hc : c ≤ 4) : Calls Tryd.prog 28 #[.string ⟨#[48]⟩, .int .i64 (c : Int)] w fun e w' => e = .returned (.string ⟨(List.replicate c 48).toArray⟩) ∧ Below w.heap.size w w' := by
  refine (Tryd.strings_Repeat ⟨#[48]⟩ c w (by omega) (by show 1 * c ≤ _; omega)).mono fun e w' h => ?_
  rw [show (⟨#[48]⟩ : ByteArray).data.toList = List.replicate 1 48 from rfl, Lib.repeatL_replicate, Nat.mul_one] at h
  exact h

set_option maxRecDepth 100000 in
set_option maxHeartbeats 1600000 in
theorem padded_gen (n k j : Nat) (t r : ByteArray) (w : World) (hj : j ≤ k) (hk : k ≤ 4) (hts : t.size = j) (hrs : r.size = k - j)
    (hit : Hid (Calls Tryd.prog 27 #[.int .i64 (n : Int)] w fun e w' => e = .returned (.string t) ∧ Below w.heap.size w w'))
    (hrep : Hid (∀ W, Calls Tryd.prog 28 #[.string ⟨#[48]⟩, .int .i64 ((k : Int) - j)] W fun e w' => e = .returned (.string r) ∧ Below W.heap.size W w')) :
    Calls Tryd.prog 11 #[.int .i64 (n : Int), .int .i64 (k : Int)] w fun e w' => e = .returned (.string (r ++ t)) ∧ Below w.heap.size w w' := by
  subst hts
  have hr4 : r.size ≤ 4 := by omega
  clear hrs
  go_enter Tryd.func11, Tryd.ntmps11
  go_wp2_with fail
  refine (hit.out).mono ?_
  rintro e w2 ⟨rfl, hb⟩
  have HB := Lib.hid hb
  clear hb
  go_wp2_with fail
  refine (hrep.out _).mono ?_
  rintro e w3 ⟨rfl, hb⟩
  have HB3 := Lib.hid (HB.out.trans (hb.mono HB.out.size))
  clear hb
  go_wp2_with fail
  go_ret
  exact ⟨rfl, HB3.out⟩
theorem app_list (a b : List UInt8) : (⟨a.toArray⟩ : ByteArray) ++ ⟨b.toArray⟩ = ⟨(a ++ b).toArray⟩ := by
  apply ByteArray.ext
  simp
theorem Tab.below {w w' : World} (h : Tab w) (hb : Below w.heap.size w w') : Tab w' := (Lib.tabBelow_of_tabIs h) w' hb
theorem padded4 (n : Nat) (w : World) (hn : n < 10000) (htab : Tab w) : Calls Tryd.prog 11 #[.int .i64 (n : Int), .int .i64 4] w fun e w' => e = .returned (.string ⟨(dig4 n).toArray⟩) ∧ Below w.heap.size w w' := by
  obtain ⟨j, h1, h2, h3⟩ := dec4 n hn
  have h := padded_gen n 4 j ⟨(Lib.decDigits n).toArray⟩ ⟨(List.replicate (4 - j) 48).toArray⟩ w h1 (by omega) (by simpa [ByteArray.size] using h2) (by simp [ByteArray.size]) (Lib.hid (itoa_is n w hn htab)) (Lib.hid fun W => by
    have := repeat_is (4 - j) W (by omega)
    rwa [show ((4 - j : Nat) : Int) = ((4 : Nat) : Int) - j by omega] at this)
  rw [app_list, h3] at h
  exact h
theorem padded2 (n : Nat) (w : World) (hn : n < 100) (htab : Tab w) : Calls Tryd.prog 11 #[.int .i64 (n : Int), .int .i64 2] w fun e w' => e = .returned (.string ⟨(dig2 n).toArray⟩) ∧ Below w.heap.size w w' := by
  obtain ⟨j, h1, h2, h3⟩ := dec2 n hn
  have h := padded_gen n 2 j ⟨(Lib.decDigits n).toArray⟩ ⟨(List.replicate (2 - j) 48).toArray⟩ w h1 (by omega) (by simpa [ByteArray.size] using h2) (by simp [ByteArray.size]) (Lib.hid (itoa_is n w (by omega) htab)) (Lib.hid fun W => by
    have := repeat_is (2 - j) W (by omega)
    rwa [show ((2 - j : Nat) : Int) = ((2 : Nat) : Int) - j by omega] at this)
  rw [app_list, h3] at h
  exact h
end Go.Proofs.YthpeaeepcbbfcaaDoor
