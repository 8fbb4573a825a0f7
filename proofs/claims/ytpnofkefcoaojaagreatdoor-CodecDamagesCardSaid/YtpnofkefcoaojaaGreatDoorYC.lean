/- Which stages are valid: the program. -/
import Derived.Test.YtpnofkefcoaojaaGreatDoorYA
import Derived.Test.YtpnofkefcoaojaaGreatDoorWDA
import Derived.BigQuiet
import Derived.Deep.QuietTactic
import Derived.StillTailTactics
import Derived.Test.YtpnofkefcoaojaaGreatDoorKB
import Derived.RangeFuncFrom
set_option maxHeartbeats 2000000
set_option maxRecDepth 100000
namespace Go.Proofs.YtpnofkefcoaojaaGreatDoor
open Go.RowKit
open Go.Lib
def posC (s : List UInt8) : Bool := (cmpT s [48]).2 && decide ((0 : Int) < (cmpT s [48]).1)
def gsB (n : Int) : Bool := decide (1 ≤ n) && decide (n ≤ 8)
def stOk (x : Sg) : Bool := if x.1 = 1 then decide (x.2.1 = 0) && posC x.2.2 else if x.1 = 2 ∨ x.1 = 3 ∨ x.1 = 5 then gsB x.2.1 && decide (x.2.2 = []) else if x.1 = 4 then decide (x.2.1 = 0) && decide (x.2.2 = []) else false
theorem gsB_gen (n : Int) (w : World) : Calls Tryz.prog 84 #[.int .i64 n] w fun e w' => e = .returned (.bool (gsB n)) ∧ w = w' := by
  unfold gsB
  by_cases h : n < 1 ∨ 8 < n
  · have e : (decide (1 ≤ n) && decide (n ≤ 8)) = false := by
      rw [Bool.and_eq_false_iff, decide_eq_false_iff_not, decide_eq_false_iff_not]; omega
    rw [e]; exact size_bad n w h
  · have e : (decide (1 ≤ n) && decide (n ≤ 8)) = true := by
      rw [Bool.and_eq_true, decide_eq_true_eq, decide_eq_true_eq]; omega
    obtain ⟨m, rfl⟩ : ∃ m : Nat, n = m := ⟨n.toNat, by omega⟩
    rw [e]; exact size_ok m w (by omega) (by omega)
theorem ispos_any (x : ByteArray) (w : World) (htab : Tab w) : Calls Tryz.prog 43 #[.string x] w fun e w' => e = .returned (.bool (posC x.data.toList)) ∧ Below w.heap.size w w' := by
  have HC := Lib.hid (compare_q x ⟨#[48]⟩ w htab)
  obtain ⟨v, HV⟩ : ∃ v, Hid (posC x.data.toList = v) := ⟨_, rfl⟩
  obtain ⟨⟨z, b⟩, HZ⟩ : ∃ t : Int × Bool, Hid (cmpT x.data.toList [48] = t) := ⟨_, rfl⟩
  have HC2 : Hid (Calls Tryz.prog 85 #[.string x, .string ⟨#[48]⟩] w (CmpTPost (z, b) w)) := Lib.hid (by rw [← HZ.out]; exact HC.out)
  have HVZ : Hid ((b && decide ((0 : Int) < z)) = v) := Lib.hid (by rw [← HV.out]; unfold posC; rw [HZ.out])
  rw [HV.out]
  clear htab HC
  cases b with
  | false =>
    obtain rfl : v = false := by rw [← HVZ.out]; rfl
    go_enter Tryz.func43, Tryz.ntmps43
    go_wp2_with fail
    refine (HC2.out).mono ?_
    rintro e w1 ⟨rfl, hb1⟩
    have HB := Lib.hid hb1
    clear hb1
    go_wp2_with fail
    go_ret
    exact ⟨rfl, HB.out⟩
  | true =>
    by_cases hz : (0 : Int) < z
    · obtain rfl : v = true := by rw [← HVZ.out, decide_eq_true hz]; rfl
      go_enter Tryz.func43, Tryz.ntmps43
      go_wp2_with fail
      refine (HC2.out).mono ?_
      rintro e w1 ⟨rfl, hb1⟩
      have HB := Lib.hid hb1
      clear hb1
      go_wp2_with fail
      go_ret
      exact ⟨rfl, HB.out⟩
    · obtain rfl : v = false := by rw [← HVZ.out, decide_eq_false hz]; rfl
      have hzd : decide ((0 : Int) < z) = false := decide_eq_false hz
      clear hz
      go_enter Tryz.func43, Tryz.ntmps43
      go_wp2_with fail
      refine (HC2.out).mono ?_
      rintro e w1 ⟨rfl, hb1⟩
      have HB := Lib.hid hb1
      clear hb1
      go_wp2_with fail
      go_ret
      exact ⟨rfl, HB.out⟩
theorem vstage_1 (n : Int) (X : ByteArray) (w : World) (bp : Bool) (hp : ∀ W, Below w.heap.size w W → Calls Tryz.prog 43 #[.string X] W fun e w2 => e = .returned (.bool bp) ∧ Below W.heap.size W w2) : Calls Tryz.prog 40 #[.agg #[.int .i64 1, .int .i64 n, .string X]] w fun e w' => e = .returned (.bool (decide (n = 0) && bp)) ∧ Below w.heap.size w w' := by
  obtain ⟨W1, HW1⟩ : ∃ W1, Hid (w.alloc (.cells #[.int .i64 1, .int .i64 n, .string X] 45) = W1) := ⟨_, Lib.hid rfl⟩
  have HB1 : Hid (Below w.heap.size w W1) := Lib.hid (by rw [← HW1.out]; exact (Below.refl _ _).alloc (Nat.le_refl _) _)
  have HPS := Lib.hid (hp W1 HB1.out)
  clear hp
  by_cases hn : n = 0
  · subst hn
    go_enter Tryz.func40, Tryz.ntmps40
    go_wp2_with fail
    try rw [HW1.out]
    refine (HPS.out).mono ?_
    rintro e w1 ⟨rfl, hb1⟩
    have HB := Lib.hid (HB1.out.trans (hb1.mono HB1.out.size))
    clear hb1
    go_wp2_with fail
    go_ret
    exact ⟨by simp, HB.out⟩
  · have hne : (n == 0) = false := by rw [beq_eq_false_iff_ne]; exact hn
    rw [decide_eq_false hn, Bool.false_and]
    go_enter Tryz.func40, Tryz.ntmps40
    go_wp2_with fail
    go_ret
    exact ⟨rfl, by first | exact HB1.out | (rw [HW1.out]; exact HB1.out)⟩
theorem vstage_2 (n : Int) (X : ByteArray) (w : World) (bs : Bool) (hb : X.toList.isEmpty = bs) : Calls Tryz.prog 40 #[.agg #[.int .i64 2, .int .i64 n, .string X]] w fun e w' => e = .returned (.bool (gsB n && bs)) ∧ Below w.heap.size w w' := by
  obtain ⟨W1, HW1⟩ : ∃ W1, Hid (w.alloc (.cells #[.int .i64 2, .int .i64 n, .string X] 45) = W1) := ⟨_, Lib.hid rfl⟩
  have HB1 : Hid (Below w.heap.size w W1) := Lib.hid (by rw [← HW1.out]; exact (Below.refl _ _).alloc (Nat.le_refl _) _)
  have HGS := Lib.hid (fun W => gsB_gen n W)
  obtain ⟨bg, HBG⟩ : ∃ b, Hid (gsB n = b) := ⟨_, rfl⟩
  rw [HBG.out] at HGS ⊢
  cases bg with
  | false =>
    clear hb
    go_enter Tryz.func40, Tryz.ntmps40
    go_wp2_with fail
    refine (HGS.out _).mono ?_
    rintro e w' ⟨rfl, rfl⟩
    go_wp2_with fail
    go_ret
    exact ⟨rfl, by first | exact HB1.out | (rw [HW1.out]; exact HB1.out)⟩
  | true =>
    cases bs with
    | true =>
      have g1 : X.toList = [] := List.isEmpty_iff.1 hb
      clear hb
      go_enter Tryz.func40, Tryz.ntmps40
      go_wp2_with fail
      refine (HGS.out _).mono ?_
      rintro e w' ⟨rfl, rfl⟩
      go_wp2_with fail
      go_ret
      exact ⟨rfl, by first | exact HB1.out | (rw [HW1.out]; exact HB1.out)⟩
    | false =>
      have g2 : ¬ X.toList = [] := fun h => by rw [h] at hb; cases hb
      have g3 : (X.toList == []) = false := by rw [beq_eq_false_iff_ne]; exact g2
      go_enter Tryz.func40, Tryz.ntmps40
      go_wp2_with fail
      refine (HGS.out _).mono ?_
      rintro e w' ⟨rfl, rfl⟩
      go_wp2_with fail
      go_ret
      exact ⟨rfl, by first | exact HB1.out | (rw [HW1.out]; exact HB1.out)⟩
theorem vstage_3 (n : Int) (X : ByteArray) (w : World) (bs : Bool) (hb : X.toList.isEmpty = bs) : Calls Tryz.prog 40 #[.agg #[.int .i64 3, .int .i64 n, .string X]] w fun e w' => e = .returned (.bool (gsB n && bs)) ∧ Below w.heap.size w w' := by
  obtain ⟨W1, HW1⟩ : ∃ W1, Hid (w.alloc (.cells #[.int .i64 3, .int .i64 n, .string X] 45) = W1) := ⟨_, Lib.hid rfl⟩
  have HB1 : Hid (Below w.heap.size w W1) := Lib.hid (by rw [← HW1.out]; exact (Below.refl _ _).alloc (Nat.le_refl _) _)
  have HGS := Lib.hid (fun W => gsB_gen n W)
  obtain ⟨bg, HBG⟩ : ∃ b, Hid (gsB n = b) := ⟨_, rfl⟩
  rw [HBG.out] at HGS ⊢
  cases bg with
  | false =>
    clear hb
    go_enter Tryz.func40, Tryz.ntmps40
    go_wp2_with fail
    refine (HGS.out _).mono ?_
    rintro e w' ⟨rfl, rfl⟩
    go_wp2_with fail
    go_ret
    exact ⟨rfl, by first | exact HB1.out | (rw [HW1.out]; exact HB1.out)⟩
  | true =>
    cases bs with
    | true =>
      have g1 : X.toList = [] := List.isEmpty_iff.1 hb
      clear hb
      go_enter Tryz.func40, Tryz.ntmps40
      go_wp2_with fail
      refine (HGS.out _).mono ?_
      rintro e w' ⟨rfl, rfl⟩
      go_wp2_with fail
      go_ret
      exact ⟨rfl, by first | exact HB1.out | (rw [HW1.out]; exact HB1.out)⟩
    | false =>
      have g2 : ¬ X.toList = [] := fun h => by rw [h] at hb; cases hb
      have g3 : (X.toList == []) = false := by rw [beq_eq_false_iff_ne]; exact g2
      go_enter Tryz.func40, Tryz.ntmps40
      go_wp2_with fail
      refine (HGS.out _).mono ?_
      rintro e w' ⟨rfl, rfl⟩
      go_wp2_with fail
      go_ret
      exact ⟨rfl, by first | exact HB1.out | (rw [HW1.out]; exact HB1.out)⟩
theorem vstage_5 (n : Int) (X : ByteArray) (w : World) (bs : Bool) (hb : X.toList.isEmpty = bs) : Calls Tryz.prog 40 #[.agg #[.int .i64 5, .int .i64 n, .string X]] w fun e w' => e = .returned (.bool (gsB n && bs)) ∧ Below w.heap.size w w' := by
  obtain ⟨W1, HW1⟩ : ∃ W1, Hid (w.alloc (.cells #[.int .i64 5, .int .i64 n, .string X] 45) = W1) := ⟨_, Lib.hid rfl⟩
  have HB1 : Hid (Below w.heap.size w W1) := Lib.hid (by rw [← HW1.out]; exact (Below.refl _ _).alloc (Nat.le_refl _) _)
  have HGS := Lib.hid (fun W => gsB_gen n W)
  obtain ⟨bg, HBG⟩ : ∃ b, Hid (gsB n = b) := ⟨_, rfl⟩
  rw [HBG.out] at HGS ⊢
  cases bg with
  | false =>
    clear hb
    go_enter Tryz.func40, Tryz.ntmps40
    go_wp2_with fail
    refine (HGS.out _).mono ?_
    rintro e w' ⟨rfl, rfl⟩
    go_wp2_with fail
    go_ret
    exact ⟨rfl, by first | exact HB1.out | (rw [HW1.out]; exact HB1.out)⟩
  | true =>
    cases bs with
    | true =>
      have g1 : X.toList = [] := List.isEmpty_iff.1 hb
      clear hb
      go_enter Tryz.func40, Tryz.ntmps40
      go_wp2_with fail
      refine (HGS.out _).mono ?_
      rintro e w' ⟨rfl, rfl⟩
      go_wp2_with fail
      go_ret
      exact ⟨rfl, by first | exact HB1.out | (rw [HW1.out]; exact HB1.out)⟩
    | false =>
      have g2 : ¬ X.toList = [] := fun h => by rw [h] at hb; cases hb
      have g3 : (X.toList == []) = false := by rw [beq_eq_false_iff_ne]; exact g2
      go_enter Tryz.func40, Tryz.ntmps40
      go_wp2_with fail
      refine (HGS.out _).mono ?_
      rintro e w' ⟨rfl, rfl⟩
      go_wp2_with fail
      go_ret
      exact ⟨rfl, by first | exact HB1.out | (rw [HW1.out]; exact HB1.out)⟩
theorem vstage_4 (n : Int) (X : ByteArray) (w : World) (bs : Bool) (hb : X.toList.isEmpty = bs) : Calls Tryz.prog 40 #[.agg #[.int .i64 4, .int .i64 n, .string X]] w fun e w' => e = .returned (.bool (decide (n = 0) && bs)) ∧ Below w.heap.size w w' := by
  obtain ⟨W1, HW1⟩ : ∃ W1, Hid (w.alloc (.cells #[.int .i64 4, .int .i64 n, .string X] 45) = W1) := ⟨_, Lib.hid rfl⟩
  have HB1 : Hid (Below w.heap.size w W1) := Lib.hid (by rw [← HW1.out]; exact (Below.refl _ _).alloc (Nat.le_refl _) _)
  by_cases hn : n = 0
  · subst hn
    rw [decide_eq_true rfl, Bool.true_and]
    cases bs with
    | true =>
      have g1 : X.toList = [] := List.isEmpty_iff.1 hb
      clear hb
      go_enter Tryz.func40, Tryz.ntmps40
      go_wp2_with fail
      go_ret
      exact ⟨rfl, by first | exact HB1.out | (rw [HW1.out]; exact HB1.out)⟩
    | false =>
      have g2 : ¬ X.toList = [] := fun h => by rw [h] at hb; cases hb
      have g3 : (X.toList == []) = false := by rw [beq_eq_false_iff_ne]; exact g2
      go_enter Tryz.func40, Tryz.ntmps40
      go_wp2_with fail
      go_ret
      exact ⟨rfl, by first | exact HB1.out | (rw [HW1.out]; exact HB1.out)⟩
  · have hne : (n == 0) = false := by rw [beq_eq_false_iff_ne]; exact hn
    rw [decide_eq_false hn, Bool.false_and]
    clear hb
    go_enter Tryz.func40, Tryz.ntmps40
    go_wp2_with fail
    go_ret
    exact ⟨rfl, by first | exact HB1.out | (rw [HW1.out]; exact HB1.out)⟩
theorem vstage_o (k n : Int) (X : ByteArray) (w : World) (h : k ≠ 1 ∧ k ≠ 2 ∧ k ≠ 3 ∧ k ≠ 4 ∧ k ≠ 5) : Calls Tryz.prog 40 #[.agg #[.int .i64 k, .int .i64 n, .string X]] w fun e w' => e = .returned (.bool (false)) ∧ Below w.heap.size w w' := by
  obtain ⟨W1, HW1⟩ : ∃ W1, Hid (w.alloc (.cells #[.int .i64 k, .int .i64 n, .string X] 45) = W1) := ⟨_, Lib.hid rfl⟩
  have HB1 : Hid (Below w.heap.size w W1) := Lib.hid (by rw [← HW1.out]; exact (Below.refl _ _).alloc (Nat.le_refl _) _)
  obtain ⟨h1, h2, h3, h4, h5⟩ := h
  have e1 : (k == 1) = false := by rw [beq_eq_false_iff_ne]; exact h1
  have e2 : (k == 2) = false := by rw [beq_eq_false_iff_ne]; exact h2
  have e3 : (k == 3) = false := by rw [beq_eq_false_iff_ne]; exact h3
  have e4 : (k == 4) = false := by rw [beq_eq_false_iff_ne]; exact h4
  have e5 : (k == 5) = false := by rw [beq_eq_false_iff_ne]; exact h5
  go_enter Tryz.func40, Tryz.ntmps40
  go_wp2_with fail
  go_ret
  exact ⟨rfl, by first | exact HB1.out | (rw [HW1.out]; exact HB1.out)⟩
theorem vstage_any (k n : Int) (s : List UInt8) (w : World) (htab : Tab w) : Calls Tryz.prog 40 #[.agg #[.int .i64 k, .int .i64 n, .string ⟨s.toArray⟩]] w fun e w' => e = .returned (.bool (stOk (k, n, s))) ∧ Below w.heap.size w w' := by
  have hs : (⟨s.toArray⟩ : ByteArray).toList.isEmpty = decide (s = []) := by
    cases s with
    | nil => simp
    | cons a r => simp
  have E1 : ∀ j : Int, j ≠ 1 → ¬ (j, n, s).1 = 1 := fun _ h => h
  unfold stOk
  by_cases h1 : k = 1
  · subst h1
    rw [if_pos rfl]
    exact vstage_1 n _ w (posC s) (fun W hW => ispos_any ⟨s.toArray⟩ W (htab.below hW))
  by_cases h2 : k = 2
  · subst h2; rw [if_neg (E1 2 (by decide)), if_pos (by show (2 : Int) = 2 ∨ (2 : Int) = 3 ∨ (2 : Int) = 5; decide)]; exact vstage_2 n _ w _ hs
  by_cases h3 : k = 3
  · subst h3; rw [if_neg (E1 3 (by decide)), if_pos (by show (3 : Int) = 2 ∨ (3 : Int) = 3 ∨ (3 : Int) = 5; decide)]; exact vstage_3 n _ w _ hs
  by_cases h5 : k = 5
  · subst h5; rw [if_neg (E1 5 (by decide)), if_pos (by show (5 : Int) = 2 ∨ (5 : Int) = 3 ∨ (5 : Int) = 5; decide)]; exact vstage_5 n _ w _ hs
  by_cases h4 : k = 4
  · subst h4; rw [if_neg (E1 4 (by decide)), if_neg (by show ¬ ((4 : Int) = 2 ∨ (4 : Int) = 3 ∨ (4 : Int) = 5); decide), if_pos (by show (4 : Int) = 4; rfl)]; exact vstage_4 n _ w _ hs
  rw [if_neg h1, if_neg (by show ¬ (k = 2 ∨ k = 3 ∨ k = 5); omega), if_neg h4]
  exact vstage_o k n _ w ⟨h1, h2, h3, h4, h5⟩
end Go.Proofs.YtpnofkefcoaojaaGreatDoor
set_option maxHeartbeats 2000000
set_option maxRecDepth 100000
namespace Go.Proofs.YtpnofkefcoaojaaGreatDoor
open Go.RowKit
open Go.Lib
def plOk (l : List Sg) (i : Nat) : Bool := stOk (l.getD i (0, 0, [])) && (decide (i = 0) || !decide ((l.getD i (0, 0, [])).1 = 1))
def pipOk (k : Int) (l : List Sg) : Bool := isT k && decide (l.length ≤ 4) && (List.range l.length).all (plOk l)
theorem pip_no {k : Int} {l : List Sg} {i : Nat} (hi : i < l.length) (h : plOk l i = false) : pipOk k l = false := by
  unfold pipOk
  have : (List.range l.length).all (plOk l) = false := by
    rw [List.all_eq_false]
    exact ⟨i, List.mem_range.2 hi, by rw [h]; simp⟩
  rw [this, Bool.and_false]
theorem pip_yes {k : Int} {l : List Sg} (hk : isT k = true) (hl : l.length ≤ 4) (h : ∀ i, i < l.length → plOk l i = true) : pipOk k l = true := by
  unfold pipOk
  rw [hk, decide_eq_true hl, Bool.true_and, Bool.true_and, List.all_eq_true]
  exact fun i hi => h i (List.mem_range.1 hi)
theorem pip_all {k : Int} {l : List Sg} (h : pipOk k l = true) : isT k = true ∧ l.length ≤ 4 ∧ ∀ i, i < l.length → plOk l i = true := by
  unfold pipOk at h
  rw [Bool.and_eq_true, Bool.and_eq_true, decide_eq_true_eq, List.all_eq_true] at h
  exact ⟨h.1.1, h.1.2, fun i hi => h.2 i (List.mem_range.2 hi)⟩
theorem pvalid_any (k : Int) (p : Option Addr) (c n : Nat) (l : List Sg) (w : World) (htab : Tab w) (hx : Hid (l.length = n)) (hs : RdG w p l) :
    Calls Tryz.prog 15 #[.int .i64 k, .slice p n c] w fun e w' => e = .returned (.bool (pipOk k l)) ∧ Below w.heap.size w w' := by
  have HS := Lib.hid hs
  have HTAB := Lib.hid htab
  obtain ⟨v, HV⟩ : ∃ v, Hid (pipOk k l = v) := ⟨_, rfl⟩
  have HT := Lib.hid (fun W => isType_any k W)
  obtain ⟨bt, HBT⟩ : ∃ bt, Hid (isT k = bt) := ⟨_, rfl⟩
  rw [HBT.out] at HT
  rw [HV.out]
  have HB0 := Lib.hid (Below.refl w.heap.size w)
  clear hs htab
  cases bt with
  | false =>
    obtain rfl : v = false := by rw [← HV.out]; unfold pipOk; rw [HBT.out]; rfl
    go_enter Tryz.func15, Tryz.ntmps15
    go_wp2_with fail
    refine (HT.out _).mono ?_
    rintro e w' ⟨rfl, rfl⟩
    go_wp2_with fail
    go_ret
    exact ⟨rfl, HB0.out⟩
  | true =>
  by_cases h4 : 4 < n
  · have h4i : (4 : Int) < (n : Int) := by omega
    obtain rfl : v = false := by
      rw [← HV.out]; unfold pipOk; rw [decide_eq_false (by rw [hx.out]; omega), Bool.and_false]; rfl
    go_enter Tryz.func15, Tryz.ntmps15
    go_wp2_with fail
    refine (HT.out _).mono ?_
    rintro e w' ⟨rfl, rfl⟩
    go_wp2_with fail
    go_ret
    exact ⟨rfl, HB0.out⟩
  have h4i : ¬ (4 : Int) < (n : Int) := by omega
  have hni : (n : Int) ≤ 4 := by omega
  have HNO : Hid (∀ i, i < n → plOk l i = false → v = false) := Lib.hid (fun i hi h => by rw [← HV.out]; exact pip_no (by rw [hx.out]; exact hi) h)
  have HYES : Hid ((∀ i, i < n → plOk l i = true) → v = true) := Lib.hid (fun h => by rw [← HV.out]; exact pip_yes HBT.out (by rw [hx.out]; omega) (fun i hi => h i (by rw [← hx.out]; exact hi)))
  go_enter Tryz.func15, Tryz.ntmps15
  go_wp2_with fail
  refine (HT.out _).mono ?_
  rintro e w' ⟨rfl, rfl⟩
  go_wp2_with fail
  go_loopw [17] (fun iv wr => ∃ i : Nat, i ≤ n ∧ iv = .int .i64 i ∧ Hid (∀ j, j < i → plOk l j = true) ∧ Hid (Below w.heap.size w wr)) (fun iv _ => n - (intOf iv).toNat)
  case atStart => exact ⟨0, Nat.zero_le _, rfl, Lib.hid (fun j hj => by omega), HB0⟩
  case round =>
    obtain ⟨i, hi, rfl, HA, HB⟩ := hrel
    have ii : (i : Int) ≤ (n : Int) := by omega
    by_cases hlt : i < n
    · have ilt : (i : Int) < (n : Int) := by omega
      obtain ⟨b1, o1, x, y, z, e1, hb1, hc1, hc2, hc3, hx1⟩ := (HS.out.below HB.out).at (k := i) (by rw [hx.out]; exact hlt)
      subst e1
      obtain ⟨Z, HZ⟩ : ∃ Z : ByteArray, Hid (⟨z.toArray⟩ = Z) := ⟨_, rfl⟩
      rw [HZ.out] at hc3
      obtain ⟨W1, HW1⟩ : ∃ W1, Hid (wr.alloc (.cells #[.int .i64 x, .int .i64 y, .string Z] 45) = W1) := ⟨_, Lib.hid rfl⟩
      have HB1 : Hid (Below wr.heap.size wr W1) := Lib.hid (by rw [← HW1.out]; exact (Below.refl _ _).alloc (Nat.le_refl _) _)
      have HBW1 : Hid (Below w.heap.size w W1) := Lib.hid (HB.out.trans (HB1.out.mono HB.out.size))
      obtain ⟨u, HU⟩ : ∃ u, Hid (stOk (x, y, z) = u) := ⟨_, rfl⟩
      have HVS : Hid (Calls Tryz.prog 40 #[.agg #[.int .i64 x, .int .i64 y, .string Z]] W1 fun e w' => e = .returned (.bool u) ∧ Below W1.heap.size W1 w') := Lib.hid (by
        have h := vstage_any x y z W1 (HTAB.out.below HBW1.out)
        rwa [HZ.out, HU.out] at h)
      have hbox : Hid (W1.heap[wr.heap.size]? = some (.cells #[.int .i64 x, .int .i64 y, .string Z] 45 (0, 0))) := Lib.hid (by rw [← HW1.out]; exact World.alloc_heap_new wr _)
      have hq0 : W1.cell? ⟨wr.heap.size, 0, none⟩ = some (.int .i64 x) := by simp [World.cell?, hbox.out]
      have hq1 : W1.cell? ⟨wr.heap.size, 1, none⟩ = some (.int .i64 y) := by simp [World.cell?, hbox.out]
      have hq2 : W1.cell? ⟨wr.heap.size, 2, none⟩ = some (.string Z) := by simp [World.cell?, hbox.out]
      have HPL : Hid (plOk l i = (u && (decide (i = 0) || !decide (x = 1)))) := Lib.hid (by unfold plOk; rw [hx1.out, HU.out])
      cases u with
      | false =>
        obtain rfl : v = false := HNO.out i hlt (by rw [HPL.out]; rfl)
        go_wp2_with fail
        rw [HW1.out]
        go_wp2_with fail
        refine (HVS.out).mono ?_
        rintro e w3 ⟨rfl, hb3⟩
        have HB3 : Hid (Below w.heap.size w w3) := Lib.hid (HBW1.out.trans (hb3.mono HBW1.out.size))
        clear hb3
        go_wp2_with fail
        go_ret
        exact ⟨rfl, HB3.out⟩
      | true =>
        by_cases h1 : x = 1
        · by_cases h0 : i = 0
          · have hst : Hid (∀ j, j < i + 1 → plOk l j = true) := Lib.hid (fun j hj => by
              by_cases e : j = i
              · rw [e, HPL.out, decide_eq_true h0]; rfl
              · exact HA.out j (by omega))
            subst h1
            have hi0 : ¬ (0 : Int) < (i : Int) := by omega
            have hi0d : decide ((0 : Int) < (i : Int)) = false := decide_eq_false hi0
            clear h0
            go_wp2_with fail
            rw [HW1.out]
            go_wp2_with fail
            refine (HVS.out).mono ?_
            rintro e w3 ⟨rfl, hb3⟩
            have hg0 := (hb3.cell (p := ⟨wr.heap.size, 0, none⟩) (by have := Array.getElem?_eq_some_iff.1 hbox.out; exact this.1)).trans hq0
            have HB3 : Hid (Below w.heap.size w w3) := Lib.hid (HBW1.out.trans (hb3.mono HBW1.out.size))
            clear hb3
            go_wp2_with fail
            go_roundw
            case rel => exact ⟨i + 1, by omega, by go_num, hst, HB3⟩
            case measure => simp [intOf]; omega
          · obtain rfl : v = false := HNO.out i hlt (by rw [HPL.out, decide_eq_false h0, decide_eq_true h1]; rfl)
            subst h1
            have hi0 : (0 : Int) < (i : Int) := by omega
            go_wp2_with fail
            rw [HW1.out]
            go_wp2_with fail
            refine (HVS.out).mono ?_
            rintro e w3 ⟨rfl, hb3⟩
            have hg0 := (hb3.cell (p := ⟨wr.heap.size, 0, none⟩) (by have := Array.getElem?_eq_some_iff.1 hbox.out; exact this.1)).trans hq0
            have HB3 : Hid (Below w.heap.size w w3) := Lib.hid (HBW1.out.trans (hb3.mono HBW1.out.size))
            clear hb3
            go_wp2_with fail
            go_ret
            exact ⟨rfl, HB3.out⟩
        · have hst : Hid (∀ j, j < i + 1 → plOk l j = true) := Lib.hid (fun j hj => by
            by_cases e : j = i
            · rw [e, HPL.out, decide_eq_false h1]; simp
            · exact HA.out j (by omega))
          have hx1b : (x == 1) = false := by rw [beq_eq_false_iff_ne]; exact h1
          clear h1
          go_wp2_with fail
          rw [HW1.out]
          go_wp2_with fail
          refine (HVS.out).mono ?_
          rintro e w3 ⟨rfl, hb3⟩
          have hg0 := (hb3.cell (p := ⟨wr.heap.size, 0, none⟩) (by have := Array.getElem?_eq_some_iff.1 hbox.out; exact this.1)).trans hq0
          have HB3 : Hid (Below w.heap.size w w3) := Lib.hid (HBW1.out.trans (hb3.mono HBW1.out.size))
          clear hb3
          go_wp2_with fail
          go_roundw
          case rel => exact ⟨i + 1, by omega, by go_num, hst, HB3⟩
          case measure => simp [intOf]; omega
    · obtain rfl : i = n := by omega
      have ilt : ¬ (i : Int) < (i : Int) := by omega
      obtain rfl : v = true := HYES.out HA.out
      go_wp2_with fail
      go_ret
      exact ⟨rfl, HB.out⟩
end Go.Proofs.YtpnofkefcoaojaaGreatDoor
