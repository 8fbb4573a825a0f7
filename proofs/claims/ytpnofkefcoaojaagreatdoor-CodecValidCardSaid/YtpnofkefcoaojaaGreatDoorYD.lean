/- Which pipelines are valid: the document. -/
import Derived.Test.YtpnofkefcoaojaaGreatDoorYC
import Derived.Test.YtpnofkefcoaojaaGreatDoorX9SC
import Derived.BigQuiet
import Derived.Deep.QuietTactic
import Derived.StillTailTactics
import Derived.RangeFuncFrom
set_option maxHeartbeats 2000000
set_option maxRecDepth 100000
namespace Go.Proofs.YtpnofkefcoaojaaGreatDoor
open Go.RowKit
open Go.Lib
theorem rpositive_any (x : ByteArray) (w : World) : Calls Tryz.prog 47 #[.string x] w fun e w' => e = .returned (.bool (posC x.data.toList)) ∧ Below w.heap.size w w' := by
  have HC := Lib.hid (rcompare_q x ⟨#[48]⟩ w)
  obtain ⟨v, HV⟩ : ∃ v, Hid (posC x.data.toList = v) := ⟨_, rfl⟩
  obtain ⟨⟨z, b⟩, HZ⟩ : ∃ t : Int × Bool, Hid (cmpT x.data.toList [48] = t) := ⟨_, rfl⟩
  have HC2 : Hid (Calls Tryz.prog 94 #[.string x, .string ⟨#[48]⟩] w (CmpTPost (z, b) w)) := Lib.hid (by rw [← HZ.out]; exact HC.out)
  have HVZ : Hid ((b && decide ((0 : Int) < z)) = v) := Lib.hid (by rw [← HV.out]; unfold posC; rw [HZ.out])
  rw [HV.out]
  clear HC
  cases b with
  | false =>
    obtain rfl : v = false := by rw [← HVZ.out]; rfl
    go_enter Tryz.func47, Tryz.ntmps47
    go_wp2_with fail
    refine (HC2.out).mono ?_
    rintro e w1 ⟨rfl, hb1⟩
    have HB := Lib.hid hb1
    clear hb1
    go_wp2_with fail
    go_ret
    exact ⟨rfl, HB.out⟩
  | true =>
    by_cases hz : (0 : Int) < z
    · obtain rfl : v = true := by rw [← HVZ.out, decide_eq_true hz]; rfl
      go_enter Tryz.func47, Tryz.ntmps47
      go_wp2_with fail
      refine (HC2.out).mono ?_
      rintro e w1 ⟨rfl, hb1⟩
      have HB := Lib.hid hb1
      clear hb1
      go_wp2_with fail
      go_ret
      exact ⟨rfl, HB.out⟩
    · obtain rfl : v = false := by rw [← HVZ.out, decide_eq_false hz]; rfl
      have hzd : decide ((0 : Int) < z) = false := decide_eq_false hz
      clear hz
      go_enter Tryz.func47, Tryz.ntmps47
      go_wp2_with fail
      refine (HC2.out).mono ?_
      rintro e w1 ⟨rfl, hb1⟩
      have HB := Lib.hid hb1
      clear hb1
      go_wp2_with fail
      go_ret
      exact ⟨rfl, HB.out⟩
theorem rstage_1 (n : Int) (i : Nat) (X : ByteArray) (w : World) (bp : Bool) (hp : ∀ W, Below w.heap.size w W → Calls Tryz.prog 47 #[.string X] W fun e w2 => e = .returned (.bool bp) ∧ Below W.heap.size W w2) : Calls Tryz.prog 42 #[.agg #[.int .i64 1, .int .i64 n, .string X], .int .i64 (i : Int)] w fun e w' => e = .returned (.bool (decide (i = 0) && (decide (n = 0) && bp))) ∧ Below w.heap.size w w' := by
  obtain ⟨W1, HW1⟩ : ∃ W1, Hid (w.alloc (.cells #[.int .i64 1, .int .i64 n, .string X] 45) = W1) := ⟨_, Lib.hid rfl⟩
  have HB1 : Hid (Below w.heap.size w W1) := Lib.hid (by rw [← HW1.out]; exact (Below.refl _ _).alloc (Nat.le_refl _) _)
  have HPS := Lib.hid (hp W1 HB1.out)
  clear hp
  by_cases hi : i = 0
  · subst hi
    by_cases hn : n = 0
    · subst hn
      go_enter Tryz.func42, Tryz.ntmps42
      go_wp2_with fail
      try rw [HW1.out]
      refine (HPS.out).mono ?_
      rintro e w1 ⟨rfl, hb1⟩
      have HB := Lib.hid (HB1.out.trans (hb1.mono HB1.out.size))
      clear hb1
      go_wp2_with fail
      go_ret
      exact ⟨by simp, HB.out⟩
    · have hne : (n == 0) = false := by rw [beq_eq_false_iff_ne]; exact hn
      rw [decide_eq_false hn, Bool.false_and, Bool.and_false]
      go_enter Tryz.func42, Tryz.ntmps42
      go_wp2_with fail
      go_ret
      exact ⟨rfl, by first | exact HB1.out | (rw [HW1.out]; exact HB1.out)⟩
  · have hie : ((i : Int) == 0) = false := by rw [beq_eq_false_iff_ne]; omega
    rw [decide_eq_false hi, Bool.false_and]
    go_enter Tryz.func42, Tryz.ntmps42
    go_wp2_with fail
    go_ret
    exact ⟨rfl, by first | exact HB1.out | (rw [HW1.out]; exact HB1.out)⟩
theorem rstage_2 (n : Int) (i : Nat) (X : ByteArray) (w : World) (bs : Bool) (hb : X.toList.isEmpty = bs) : Calls Tryz.prog 42 #[.agg #[.int .i64 2, .int .i64 n, .string X], .int .i64 (i : Int)] w fun e w' => e = .returned (.bool (gsB n && bs)) ∧ Below w.heap.size w w' := by
  obtain ⟨W1, HW1⟩ : ∃ W1, Hid (w.alloc (.cells #[.int .i64 2, .int .i64 n, .string X] 45) = W1) := ⟨_, Lib.hid rfl⟩
  have HB1 : Hid (Below w.heap.size w W1) := Lib.hid (by rw [← HW1.out]; exact (Below.refl _ _).alloc (Nat.le_refl _) _)
  unfold gsB
  by_cases h1 : 1 ≤ n
  case neg =>
    have h1d : decide (1 ≤ n) = false := decide_eq_false h1
    rw [h1d, Bool.false_and, Bool.false_and]
    clear hb
    go_enter Tryz.func42, Tryz.ntmps42
    go_wp2_with fail
    go_ret
    exact ⟨rfl, by first | exact HB1.out | (rw [HW1.out]; exact HB1.out)⟩
  by_cases h8 : n ≤ 8
  case neg =>
    have h8d : decide (n ≤ 8) = false := decide_eq_false h8
    rw [h8d, Bool.and_false, Bool.false_and]
    clear hb
    go_enter Tryz.func42, Tryz.ntmps42
    go_wp2_with fail
    go_ret
    exact ⟨rfl, by first | exact HB1.out | (rw [HW1.out]; exact HB1.out)⟩
  rw [decide_eq_true h1, decide_eq_true h8, Bool.true_and, Bool.true_and]
  cases bs with
  | true =>
    have g1 : X.toList = [] := List.isEmpty_iff.1 hb
    clear hb
    go_enter Tryz.func42, Tryz.ntmps42
    go_wp2_with fail
    go_ret
    exact ⟨rfl, by first | exact HB1.out | (rw [HW1.out]; exact HB1.out)⟩
  | false =>
    have g2 : ¬ X.toList = [] := fun h => by rw [h] at hb; cases hb
    have g3 : (X.toList == []) = false := by rw [beq_eq_false_iff_ne]; exact g2
    go_enter Tryz.func42, Tryz.ntmps42
    go_wp2_with fail
    go_ret
    exact ⟨rfl, by first | exact HB1.out | (rw [HW1.out]; exact HB1.out)⟩
theorem rstage_3 (n : Int) (i : Nat) (X : ByteArray) (w : World) (bs : Bool) (hb : X.toList.isEmpty = bs) : Calls Tryz.prog 42 #[.agg #[.int .i64 3, .int .i64 n, .string X], .int .i64 (i : Int)] w fun e w' => e = .returned (.bool (gsB n && bs)) ∧ Below w.heap.size w w' := by
  obtain ⟨W1, HW1⟩ : ∃ W1, Hid (w.alloc (.cells #[.int .i64 3, .int .i64 n, .string X] 45) = W1) := ⟨_, Lib.hid rfl⟩
  have HB1 : Hid (Below w.heap.size w W1) := Lib.hid (by rw [← HW1.out]; exact (Below.refl _ _).alloc (Nat.le_refl _) _)
  unfold gsB
  by_cases h1 : 1 ≤ n
  case neg =>
    have h1d : decide (1 ≤ n) = false := decide_eq_false h1
    rw [h1d, Bool.false_and, Bool.false_and]
    clear hb
    go_enter Tryz.func42, Tryz.ntmps42
    go_wp2_with fail
    go_ret
    exact ⟨rfl, by first | exact HB1.out | (rw [HW1.out]; exact HB1.out)⟩
  by_cases h8 : n ≤ 8
  case neg =>
    have h8d : decide (n ≤ 8) = false := decide_eq_false h8
    rw [h8d, Bool.and_false, Bool.false_and]
    clear hb
    go_enter Tryz.func42, Tryz.ntmps42
    go_wp2_with fail
    go_ret
    exact ⟨rfl, by first | exact HB1.out | (rw [HW1.out]; exact HB1.out)⟩
  rw [decide_eq_true h1, decide_eq_true h8, Bool.true_and, Bool.true_and]
  cases bs with
  | true =>
    have g1 : X.toList = [] := List.isEmpty_iff.1 hb
    clear hb
    go_enter Tryz.func42, Tryz.ntmps42
    go_wp2_with fail
    go_ret
    exact ⟨rfl, by first | exact HB1.out | (rw [HW1.out]; exact HB1.out)⟩
  | false =>
    have g2 : ¬ X.toList = [] := fun h => by rw [h] at hb; cases hb
    have g3 : (X.toList == []) = false := by rw [beq_eq_false_iff_ne]; exact g2
    go_enter Tryz.func42, Tryz.ntmps42
    go_wp2_with fail
    go_ret
    exact ⟨rfl, by first | exact HB1.out | (rw [HW1.out]; exact HB1.out)⟩
theorem rstage_5 (n : Int) (i : Nat) (X : ByteArray) (w : World) (bs : Bool) (hb : X.toList.isEmpty = bs) : Calls Tryz.prog 42 #[.agg #[.int .i64 5, .int .i64 n, .string X], .int .i64 (i : Int)] w fun e w' => e = .returned (.bool (gsB n && bs)) ∧ Below w.heap.size w w' := by
  obtain ⟨W1, HW1⟩ : ∃ W1, Hid (w.alloc (.cells #[.int .i64 5, .int .i64 n, .string X] 45) = W1) := ⟨_, Lib.hid rfl⟩
  have HB1 : Hid (Below w.heap.size w W1) := Lib.hid (by rw [← HW1.out]; exact (Below.refl _ _).alloc (Nat.le_refl _) _)
  unfold gsB
  by_cases h1 : 1 ≤ n
  case neg =>
    have h1d : decide (1 ≤ n) = false := decide_eq_false h1
    rw [h1d, Bool.false_and, Bool.false_and]
    clear hb
    go_enter Tryz.func42, Tryz.ntmps42
    go_wp2_with fail
    go_ret
    exact ⟨rfl, by first | exact HB1.out | (rw [HW1.out]; exact HB1.out)⟩
  by_cases h8 : n ≤ 8
  case neg =>
    have h8d : decide (n ≤ 8) = false := decide_eq_false h8
    rw [h8d, Bool.and_false, Bool.false_and]
    clear hb
    go_enter Tryz.func42, Tryz.ntmps42
    go_wp2_with fail
    go_ret
    exact ⟨rfl, by first | exact HB1.out | (rw [HW1.out]; exact HB1.out)⟩
  rw [decide_eq_true h1, decide_eq_true h8, Bool.true_and, Bool.true_and]
  cases bs with
  | true =>
    have g1 : X.toList = [] := List.isEmpty_iff.1 hb
    clear hb
    go_enter Tryz.func42, Tryz.ntmps42
    go_wp2_with fail
    go_ret
    exact ⟨rfl, by first | exact HB1.out | (rw [HW1.out]; exact HB1.out)⟩
  | false =>
    have g2 : ¬ X.toList = [] := fun h => by rw [h] at hb; cases hb
    have g3 : (X.toList == []) = false := by rw [beq_eq_false_iff_ne]; exact g2
    go_enter Tryz.func42, Tryz.ntmps42
    go_wp2_with fail
    go_ret
    exact ⟨rfl, by first | exact HB1.out | (rw [HW1.out]; exact HB1.out)⟩
theorem rstage_4 (n : Int) (i : Nat) (X : ByteArray) (w : World) (bs : Bool) (hb : X.toList.isEmpty = bs) : Calls Tryz.prog 42 #[.agg #[.int .i64 4, .int .i64 n, .string X], .int .i64 (i : Int)] w fun e w' => e = .returned (.bool (decide (n = 0) && bs)) ∧ Below w.heap.size w w' := by
  obtain ⟨W1, HW1⟩ : ∃ W1, Hid (w.alloc (.cells #[.int .i64 4, .int .i64 n, .string X] 45) = W1) := ⟨_, Lib.hid rfl⟩
  have HB1 : Hid (Below w.heap.size w W1) := Lib.hid (by rw [← HW1.out]; exact (Below.refl _ _).alloc (Nat.le_refl _) _)
  by_cases hn : n = 0
  · subst hn
    rw [decide_eq_true rfl, Bool.true_and]
    cases bs with
    | true =>
      have g1 : X.toList = [] := List.isEmpty_iff.1 hb
      clear hb
      go_enter Tryz.func42, Tryz.ntmps42
      go_wp2_with fail
      go_ret
      exact ⟨rfl, by first | exact HB1.out | (rw [HW1.out]; exact HB1.out)⟩
    | false =>
      have g2 : ¬ X.toList = [] := fun h => by rw [h] at hb; cases hb
      have g3 : (X.toList == []) = false := by rw [beq_eq_false_iff_ne]; exact g2
      go_enter Tryz.func42, Tryz.ntmps42
      go_wp2_with fail
      go_ret
      exact ⟨rfl, by first | exact HB1.out | (rw [HW1.out]; exact HB1.out)⟩
  · have hne : (n == 0) = false := by rw [beq_eq_false_iff_ne]; exact hn
    rw [decide_eq_false hn, Bool.false_and]
    clear hb
    go_enter Tryz.func42, Tryz.ntmps42
    go_wp2_with fail
    go_ret
    exact ⟨rfl, by first | exact HB1.out | (rw [HW1.out]; exact HB1.out)⟩
theorem rstage_o (k n : Int) (i : Nat) (X : ByteArray) (w : World) (h : k ≠ 1 ∧ k ≠ 2 ∧ k ≠ 3 ∧ k ≠ 4 ∧ k ≠ 5) : Calls Tryz.prog 42 #[.agg #[.int .i64 k, .int .i64 n, .string X], .int .i64 (i : Int)] w fun e w' => e = .returned (.bool (false)) ∧ Below w.heap.size w w' := by
  obtain ⟨W1, HW1⟩ : ∃ W1, Hid (w.alloc (.cells #[.int .i64 k, .int .i64 n, .string X] 45) = W1) := ⟨_, Lib.hid rfl⟩
  have HB1 : Hid (Below w.heap.size w W1) := Lib.hid (by rw [← HW1.out]; exact (Below.refl _ _).alloc (Nat.le_refl _) _)
  obtain ⟨h1, h2, h3, h4, h5⟩ := h
  have e1 : (k == 1) = false := by rw [beq_eq_false_iff_ne]; exact h1
  have e2 : (k == 2) = false := by rw [beq_eq_false_iff_ne]; exact h2
  have e3 : (k == 3) = false := by rw [beq_eq_false_iff_ne]; exact h3
  have e4 : (k == 4) = false := by rw [beq_eq_false_iff_ne]; exact h4
  have e5 : (k == 5) = false := by rw [beq_eq_false_iff_ne]; exact h5
  go_enter Tryz.func42, Tryz.ntmps42
  go_wp2_with fail
  go_ret
  exact ⟨rfl, by first | exact HB1.out | (rw [HW1.out]; exact HB1.out)⟩
theorem rstage_any (k n : Int) (i : Nat) (s : List UInt8) (w : World) : Calls Tryz.prog 42 #[.agg #[.int .i64 k, .int .i64 n, .string ⟨s.toArray⟩], .int .i64 (i : Int)] w fun e w' => e = .returned (.bool (stOk (k, n, s) && (decide (i = 0) || !decide (k = 1)))) ∧ Below w.heap.size w w' := by
  have hs : (⟨s.toArray⟩ : ByteArray).toList.isEmpty = decide (s = []) := by
    cases s with
    | nil => simp
    | cons a r => simp
  have E1 : ∀ j : Int, j ≠ 1 → ¬ (j, n, s).1 = 1 := fun _ h => h
  have E2 : ∀ b c : Bool, (b && (c || true)) = b := by decide
  unfold stOk
  by_cases h1 : k = 1
  · subst h1
    rw [if_pos rfl, decide_eq_true (rfl : (1 : Int) = 1), Bool.not_true, Bool.or_false, Bool.and_comm]
    exact rstage_1 n i _ w (posC s) (fun W hW => rpositive_any ⟨s.toArray⟩ W)
  rw [decide_eq_false h1, Bool.not_false, E2]
  by_cases h2 : k = 2
  · subst h2; rw [if_neg (E1 2 (by decide)), if_pos (by show (2 : Int) = 2 ∨ (2 : Int) = 3 ∨ (2 : Int) = 5; decide)]; exact rstage_2 n i _ w _ hs
  by_cases h3 : k = 3
  · subst h3; rw [if_neg (E1 3 (by decide)), if_pos (by show (3 : Int) = 2 ∨ (3 : Int) = 3 ∨ (3 : Int) = 5; decide)]; exact rstage_3 n i _ w _ hs
  by_cases h5 : k = 5
  · subst h5; rw [if_neg (E1 5 (by decide)), if_pos (by show (5 : Int) = 2 ∨ (5 : Int) = 3 ∨ (5 : Int) = 5; decide)]; exact rstage_5 n i _ w _ hs
  by_cases h4 : k = 4
  · subst h4; rw [if_neg (E1 4 (by decide)), if_neg (by show ¬ ((4 : Int) = 2 ∨ (4 : Int) = 3 ∨ (4 : Int) = 5); decide), if_pos (by show (4 : Int) = 4; rfl)]; exact rstage_4 n i _ w _ hs
  rw [if_neg h1, if_neg (by show ¬ (k = 2 ∨ k = 3 ∨ k = 5); omega), if_neg h4]
  exact rstage_o k n i _ w ⟨h1, h2, h3, h4, h5⟩
theorem rvalidp_any (k : Int) (p : Option Addr) (c n : Nat) (l : List Sg) (w : World) (hx : Hid (l.length = n)) (hs : RdG w p l) :
    Calls Tryz.prog 16 #[.int .i64 k, .slice p n c] w fun e w' => e = .returned (.bool (pipOk k l)) ∧ Below w.heap.size w w' := by
  have HS := Lib.hid hs
  obtain ⟨v, HV⟩ : ∃ v, Hid (pipOk k l = v) := ⟨_, rfl⟩
  have HT := Lib.hid (fun W => risType_any k W)
  obtain ⟨bt, HBT⟩ : ∃ bt, Hid (isT k = bt) := ⟨_, rfl⟩
  rw [HBT.out] at HT
  rw [HV.out]
  have HB0 := Lib.hid (Below.refl w.heap.size w)
  clear hs
  cases bt with
  | false =>
    obtain rfl : v = false := by rw [← HV.out]; unfold pipOk; rw [HBT.out]; rfl
    go_enter Tryz.func16, Tryz.ntmps16
    go_wp2_with fail
    refine (HT.out _).mono ?_
    rintro e w' ⟨rfl, rfl⟩
    go_wp2_with fail
    go_ret
    exact ⟨rfl, HB0.out⟩
  | true =>
  by_cases h4 : 4 < n
  · have h4i : (4 : Int) < (n : Int) := by omega
    obtain rfl : v = false := by
      rw [← HV.out]; unfold pipOk; rw [decide_eq_false (by rw [hx.out]; omega), Bool.and_false]; rfl
    go_enter Tryz.func16, Tryz.ntmps16
    go_wp2_with fail
    refine (HT.out _).mono ?_
    rintro e w' ⟨rfl, rfl⟩
    go_wp2_with fail
    go_ret
    exact ⟨rfl, HB0.out⟩
  have h4i : ¬ (4 : Int) < (n : Int) := by omega
  have hni : (n : Int) ≤ 4 := by omega
  have HNO : Hid (∀ i, i < n → plOk l i = false → v = false) := Lib.hid (fun i hi h => by rw [← HV.out]; exact pip_no (by rw [hx.out]; exact hi) h)
  have HYES : Hid ((∀ i, i < n → plOk l i = true) → v = true) := Lib.hid (fun h => by rw [← HV.out]; exact pip_yes HBT.out (by rw [hx.out]; omega) (fun i hi => h i (by rw [← hx.out]; exact hi)))
  go_enter Tryz.func16, Tryz.ntmps16
  go_wp2_with fail
  refine (HT.out _).mono ?_
  rintro e w' ⟨rfl, rfl⟩
  go_wp2_with fail
  go_loopw [5] (fun iv wr => ∃ i : Nat, i ≤ n ∧ iv = .int .i64 i ∧ Hid (∀ j, j < i → plOk l j = true) ∧ Hid (Below w.heap.size w wr)) (fun iv _ => n - (intOf iv).toNat)
  case atStart => exact ⟨0, Nat.zero_le _, rfl, Lib.hid (fun j hj => by omega), HB0⟩
  case round =>
    obtain ⟨i, hi, rfl, HA, HB⟩ := hrel
    have ii : (i : Int) ≤ (n : Int) := by omega
    by_cases hlt : i < n
    · have ilt : (i : Int) < (n : Int) := by omega
      obtain ⟨b1, o1, x, y, z, e1, hb1, hc1, hc2, hc3, hx1⟩ := (HS.out.below HB.out).at (k := i) (by rw [hx.out]; exact hlt)
      subst e1
      obtain ⟨Z, HZ⟩ : ∃ Z : ByteArray, Hid (⟨z.toArray⟩ = Z) := ⟨_, rfl⟩
      rw [HZ.out] at hc3
      obtain ⟨u, HU⟩ : ∃ u, Hid (plOk l i = u) := ⟨_, rfl⟩
      have HVS : Hid (Calls Tryz.prog 42 #[.agg #[.int .i64 x, .int .i64 y, .string Z], .int .i64 (i : Int)] wr fun e w' => e = .returned (.bool u) ∧ Below wr.heap.size wr w') := Lib.hid (by
        have h := rstage_any x y i z wr
        unfold plOk at HU
        rw [hx1.out] at HU
        rwa [HZ.out, HU.out] at h)
      cases u with
      | false =>
        obtain rfl : v = false := HNO.out i hlt HU.out
        go_wp2_with fail
        refine (HVS.out).mono ?_
        rintro e w3 ⟨rfl, hb3⟩
        have HB3 : Hid (Below w.heap.size w w3) := Lib.hid (HB.out.trans (hb3.mono HB.out.size))
        clear hb3
        go_wp2_with fail
        go_ret
        exact ⟨rfl, HB3.out⟩
      | true =>
        have hst : Hid (∀ j, j < i + 1 → plOk l j = true) := Lib.hid (fun j hj => by
          by_cases e : j = i
          · rw [e]; exact HU.out
          · exact HA.out j (by omega))
        go_wp2_with fail
        refine (HVS.out).mono ?_
        rintro e w3 ⟨rfl, hb3⟩
        have HB3 : Hid (Below w.heap.size w w3) := Lib.hid (HB.out.trans (hb3.mono HB.out.size))
        clear hb3
        go_wp2_with fail
        go_roundw
        case rel => exact ⟨i + 1, by omega, by go_num, hst, HB3⟩
        case measure => simp [intOf]; omega
    · obtain rfl : i = n := by omega
      have ilt : ¬ (i : Int) < (i : Int) := by omega
      obtain rfl : v = true := HYES.out HA.out
      go_wp2_with fail
      go_ret
      exact ⟨rfl, HB.out⟩
end Go.Proofs.YtpnofkefcoaojaaGreatDoor
