/- Types, and whether values fit them. -/
import Derived.Test.YtaedmojkoioifaaGreatDoorCF
import Derived.Test.YtaedmojkoioifaaGreatDoorQY
set_option maxHeartbeats 2000000
set_option maxRecDepth 100000
namespace Go.Proofs.YtaedmojkoioifaaGreatDoor
open Go.RowKit
open Go.Lib
def widT (k : Int) : Nat := if k = 1 then 1 else if k = 2 then 2 else if k = 3 then 4 else if k = 4 then 8 else 0
def isT (k : Int) : Bool := decide (1 ≤ k) && decide (k ≤ 5)
theorem widT_le (k : Int) : widT k ≤ 8 := by unfold widT; repeat' split
                                             all_goals omega
theorem widT_out {k : Int} (h : k < 1 ∨ 4 < k) : widT k = 0 := by
  unfold widT
  rw [if_neg (by omega), if_neg (by omega), if_neg (by omega), if_neg (by omega)]
theorem kinds (k : Int) : k = 1 ∨ k = 2 ∨ k = 3 ∨ k = 4 ∨ k = 5 ∨ k < 1 ∨ 5 < k := by omega
def chkE (k : Int) (xs : List (List UInt8)) : Int := if isT k = false then 2 else if xs.all (fitT k) = false then 41 else 0
theorem width_any (k : Int) (w : World) : Calls Tryz.prog 16 #[.int .i64 k] w fun e w' => e = .returned (.int .i64 (widT k : Int)) ∧ w = w' := by
  by_cases h1 : k = 1
  · subst h1
    go_enter Tryz.func16, Tryz.ntmps16
    go_wp2_with fail
    go_ret
    exact ⟨rfl, rfl⟩
  by_cases h2 : k = 2
  · subst h2
    go_enter Tryz.func16, Tryz.ntmps16
    go_wp2_with fail
    go_ret
    exact ⟨rfl, rfl⟩
  by_cases h3 : k = 3
  · subst h3
    go_enter Tryz.func16, Tryz.ntmps16
    go_wp2_with fail
    go_ret
    exact ⟨rfl, rfl⟩
  by_cases h4 : k = 4
  · subst h4
    go_enter Tryz.func16, Tryz.ntmps16
    go_wp2_with fail
    go_ret
    exact ⟨rfl, rfl⟩
  have e : widT k = 0 := by unfold widT; rw [if_neg h1, if_neg h2, if_neg h3, if_neg h4]
  rw [e]
  have g1 : (k == 1) = false := by simpa using h1
  have g2 : (k == 2) = false := by simpa using h2
  have g3 : (k == 3) = false := by simpa using h3
  have g4 : (k == 4) = false := by simpa using h4
  go_enter Tryz.func16, Tryz.ntmps16
  go_wp2_with fail
  go_ret
  exact ⟨rfl, rfl⟩
theorem isType_any (k : Int) (w : World) : Calls Tryz.prog 19 #[.int .i64 k] w fun e w' => e = .returned (.bool (isT k)) ∧ w = w' := by
  have HW := Lib.hid (width_any k w)
  obtain ⟨d, HD⟩ : ∃ d, Hid (d = widT k) := ⟨_, rfl⟩
  rw [← HD.out] at HW
  obtain ⟨b, HB⟩ : ∃ b, Hid (b = isT k) := ⟨_, rfl⟩
  rw [← HB.out]
  by_cases h : 1 ≤ k ∧ k ≤ 4
  · obtain rfl : b = true := by rw [HB.out]; unfold isT; rw [decide_eq_true h.1, decide_eq_true (by omega)]; rfl
    have hd : (0 : Int) < (d : Int) := by
      have : 0 < d := by
        rw [HD.out]; unfold widT
        have : k = 1 ∨ k = 2 ∨ k = 3 ∨ k = 4 := by omega
        rcases this with rfl | rfl | rfl | rfl <;> decide
      omega
    go_enter Tryz.func19, Tryz.ntmps19
    go_wp2_with fail
    refine (HW.out).mono ?_
    rintro e w' ⟨rfl, rfl⟩
    go_wp2_with fail
    go_ret
    exact ⟨rfl, rfl⟩
  · obtain rfl : d = 0 := by rw [HD.out]; exact widT_out (by omega)
    by_cases h5 : k = 5
    · subst h5
      obtain rfl : b = true := HB.out
      go_enter Tryz.func19, Tryz.ntmps19
      go_wp2_with fail
      refine (HW.out).mono ?_
      rintro e w' ⟨rfl, rfl⟩
      go_wp2_with fail
      go_ret
      exact ⟨rfl, rfl⟩
    · obtain rfl : b = false := by
        rw [HB.out]; unfold isT
        by_cases h1 : 1 ≤ k
        · rw [decide_eq_false (show ¬ k ≤ 5 by omega), Bool.and_false]
        · rw [decide_eq_false h1]; rfl
      have g5 : (k == 5) = false := by simpa using h5
      go_enter Tryz.func19, Tryz.ntmps19
      go_wp2_with fail
      refine (HW.out).mono ?_
      rintro e w' ⟨rfl, rfl⟩
      go_wp2_with fail
      go_ret
      exact ⟨rfl, rfl⟩
theorem rwidth_any (k : Int) (w : World) : Calls Tryz.prog 24 #[.int .i64 k] w fun e w' => e = .returned (.int .i64 (widT k : Int)) ∧ w = w' := by
  rcases kinds k with rfl | rfl | rfl | rfl | rfl | h | h
  case inr.inr.inr.inr.inr.inl =>
    rw [widT_out (.inl h)]
    go_enter Tryz.func24, Tryz.ntmps24
    go_wp2_with fail
    go_ret
    exact ⟨rfl, rfl⟩
  case inr.inr.inr.inr.inr.inr =>
    rw [widT_out (.inr (by omega))]
    have h1 : ¬ k < 1 := by omega
    have h4 : 4 < k := by omega
    go_enter Tryz.func24, Tryz.ntmps24
    go_wp2_with fail
    go_ret
    exact ⟨rfl, rfl⟩
  all_goals
    go_enter Tryz.func24, Tryz.ntmps24
    go_wp2_with fail
    go_ret
    exact ⟨rfl, rfl⟩
theorem risType_any (k : Int) (w : World) : Calls Tryz.prog 23 #[.int .i64 k] w fun e w' => e = .returned (.bool (isT k)) ∧ w = w' := by
  obtain ⟨b, HB⟩ : ∃ b, Hid (b = isT k) := ⟨_, rfl⟩
  rw [← HB.out]
  by_cases h1 : 1 ≤ k
  · by_cases h5 : k ≤ 5
    · obtain rfl : b = true := by rw [HB.out]; unfold isT; rw [decide_eq_true h1, decide_eq_true h5]; rfl
      go_enter Tryz.func23, Tryz.ntmps23
      go_wp2_with fail
      go_ret
      exact ⟨rfl, rfl⟩
    · obtain rfl : b = false := by rw [HB.out]; unfold isT; rw [decide_eq_false h5, Bool.and_false]
      have h6 : 5 < k := by omega
      go_enter Tryz.func23, Tryz.ntmps23
      go_wp2_with fail
      go_ret
      exact ⟨rfl, rfl⟩
  · obtain rfl : b = false := by rw [HB.out]; unfold isT; rw [decide_eq_false h1]; rfl
    have h6 : k < 1 := by omega
    go_enter Tryz.func23, Tryz.ntmps23
    go_wp2_with fail
    go_ret
    exact ⟨rfl, rfl⟩
theorem checkV_any (k : Int) (p : Option Addr) (c n : Nat) (xs : List (List UInt8)) (w : World) (hx : Hid (xs.length = n)) (hn : n ≤ 4096) (hs : Ss w p xs) (he : Env w) :
    Calls Tryz.prog 12 #[.int .i64 k, .slice p n c] w fun e w' => e = .returned (.int .i64 (chkE k xs)) ∧ Below w.heap.size w w' := by
  have HS := Lib.hid hs
  have hn' : (n : Int) ≤ 4096 := by omega
  have HT := Lib.hid (fun W => isType_any k W)
  have HE := Lib.hid he
  clear he
  obtain ⟨b, HBT⟩ : ∃ b, Hid (isT k = b) := ⟨_, rfl⟩
  rw [HBT.out] at HT
  obtain ⟨v, HV⟩ : ∃ v, Hid (v = chkE k xs) := ⟨_, rfl⟩
  rw [← HV.out]
  have HB0 := Lib.hid (Below.refl w.heap.size w)
  clear hs
  cases b with
  | false =>
    obtain rfl : v = 2 := by rw [HV.out]; unfold chkE; rw [if_pos HBT.out]
    go_enter Tryz.func12, Tryz.ntmps12
    go_wp2_with fail
    refine (HT.out _).mono ?_
    rintro e w' ⟨rfl, rfl⟩
    go_wp2_with fail
    go_ret
    exact ⟨rfl, HB0.out⟩
  | true =>
    have HNO : Hid (∀ j, j < n → fitT k (xs.getD j []) = false → v = 41) := Lib.hid (fun j hj h => by
      rw [HV.out]; unfold chkE
      rw [if_neg (by rw [HBT.out]; simp), if_pos]
      rw [List.all_eq_false]
      have hj2 : j < xs.length := by rw [hx.out]; exact hj
      rw [List.getD_eq_getElem?_getD, List.getElem?_eq_getElem hj2] at h
      exact ⟨_, List.getElem_mem hj2, by simpa using h⟩)
    have HYES : Hid ((∀ j, j < n → fitT k (xs.getD j []) = true) → v = 0) := Lib.hid (fun h => by
      rw [HV.out]; unfold chkE
      rw [if_neg (by rw [HBT.out]; simp), if_neg]
      rw [Bool.not_eq_false, List.all_eq_true]
      intro x hx2
      obtain ⟨j, hj, rfl⟩ := List.getElem_of_mem hx2
      have := h j (by rw [← hx.out]; exact hj)
      rwa [List.getD_eq_getElem?_getD, List.getElem?_eq_getElem hj] at this)
    go_enter Tryz.func12, Tryz.ntmps12
    go_wp2_with fail
    refine (HT.out _).mono ?_
    rintro e w' ⟨rfl, rfl⟩
    go_wp2_with fail
    refine (isCount_any n hn' _).mono ?_
    rintro e w' ⟨rfl, rfl⟩
    go_wp2_with fail
    go_loopw [16] (fun iv wr => ∃ i : Nat, i ≤ n ∧ iv = .int .i64 i ∧ Hid (Below w.heap.size w wr) ∧ Hid (∀ j, j < i → fitT k (xs.getD j []) = true)) (fun iv _ => n - (intOf iv).toNat)
    case atStart => exact ⟨0, Nat.zero_le _, rfl, HB0, Lib.hid (fun j hj => by omega)⟩
    case round =>
      obtain ⟨i, hi, rfl, HB, HA⟩ := hrel
      have ii : (i : Int) ≤ (n : Int) := by omega
      by_cases hlt : i < n
      · have ilt : (i : Int) < (n : Int) := by omega
        obtain ⟨b1, o1, x, e1, hb1, hc1, hxx⟩ := (HS.out.below HB.out).at (k := i) (by rw [hx.out]; exact hlt)
        subst e1
        have HC := Lib.hid (pfits_list k x wr (HE.out.below HB.out))
        obtain ⟨f, HF⟩ : ∃ f, Hid (fitT k x = f) := ⟨_, rfl⟩
        rw [HF.out] at HC
        cases f with
        | true =>
          have HA2 : Hid (∀ j, j < i + 1 → fitT k (xs.getD j []) = true) := Lib.hid (fun j hj => by
            by_cases e : j = i
            · rw [e, hxx.out]; exact HF.out
            · exact HA.out j (by omega))
          go_wp2_with fail
          refine (HC.out).mono ?_
          rintro e w2 ⟨rfl, hb2⟩
          have HB2 := Lib.hid (HB.out.trans (hb2.mono HB.out.size))
          clear hb2
          go_wp2_with fail
          go_roundw
          case rel => exact ⟨i + 1, by omega, by go_num, HB2, HA2⟩
          case measure => simp [intOf]; omega
        | false =>
          obtain rfl : v = 41 := HNO.out i hlt (by rw [hxx.out]; exact HF.out)
          go_wp2_with fail
          refine (HC.out).mono ?_
          rintro e w2 ⟨rfl, hb2⟩
          have HB2 := Lib.hid (HB.out.trans (hb2.mono HB.out.size))
          clear hb2
          go_wp2_with fail
          go_ret
          exact ⟨rfl, HB2.out⟩
      · obtain rfl : i = n := by omega
        have ilt : ¬ (i : Int) < (i : Int) := by omega
        obtain rfl : v = 0 := HYES.out HA.out
        go_wp2_with fail
        go_ret
        exact ⟨rfl, HB.out⟩
theorem unwell_any (k : Int) (p : Option Addr) (c n : Nat) (xs : List (List UInt8)) (w : World) (hx : Hid (xs.length = n)) (hn : n ≤ 4096) (hs : Ss w p xs) :
    Calls Tryz.prog 17 #[.int .i64 k, .slice p n c] w fun e w' => e = .returned (.int .i64 (chkE k xs)) ∧ Below w.heap.size w w' := by
  have HS := Lib.hid hs
  have hn' : (n : Int) ≤ 4096 := by omega
  have HT := Lib.hid (fun W => risType_any k W)
  obtain ⟨b, HBT⟩ : ∃ b, Hid (isT k = b) := ⟨_, rfl⟩
  rw [HBT.out] at HT
  obtain ⟨v, HV⟩ : ∃ v, Hid (v = chkE k xs) := ⟨_, rfl⟩
  rw [← HV.out]
  have HB0 := Lib.hid (Below.refl w.heap.size w)
  clear hs
  cases b with
  | false =>
    obtain rfl : v = 2 := by rw [HV.out]; unfold chkE; rw [if_pos HBT.out]
    go_enter Tryz.func17, Tryz.ntmps17
    go_wp2_with fail
    refine (HT.out _).mono ?_
    rintro e w' ⟨rfl, rfl⟩
    go_wp2_with fail
    go_ret
    exact ⟨rfl, HB0.out⟩
  | true =>
    have HNO : Hid (∀ j, j < n → fitT k (xs.getD j []) = false → v = 41) := Lib.hid (fun j hj h => by
      rw [HV.out]; unfold chkE
      rw [if_neg (by rw [HBT.out]; simp), if_pos]
      rw [List.all_eq_false]
      have hj2 : j < xs.length := by rw [hx.out]; exact hj
      rw [List.getD_eq_getElem?_getD, List.getElem?_eq_getElem hj2] at h
      exact ⟨_, List.getElem_mem hj2, by simpa using h⟩)
    have HYES : Hid ((∀ j, j < n → fitT k (xs.getD j []) = true) → v = 0) := Lib.hid (fun h => by
      rw [HV.out]; unfold chkE
      rw [if_neg (by rw [HBT.out]; simp), if_neg]
      rw [Bool.not_eq_false, List.all_eq_true]
      intro x hx2
      obtain ⟨j, hj, rfl⟩ := List.getElem_of_mem hx2
      have := h j (by rw [← hx.out]; exact hj)
      rwa [List.getD_eq_getElem?_getD, List.getElem?_eq_getElem hj] at this)
    go_enter Tryz.func17, Tryz.ntmps17
    go_wp2_with fail
    refine (HT.out _).mono ?_
    rintro e w' ⟨rfl, rfl⟩
    go_wp2_with fail
    go_loopw [5] (fun iv wr => ∃ i : Nat, i ≤ n ∧ iv = .int .i64 i ∧ Hid (Below w.heap.size w wr) ∧ Hid (∀ j, j < i → fitT k (xs.getD j []) = true)) (fun iv _ => n - (intOf iv).toNat)
    case atStart => exact ⟨0, Nat.zero_le _, rfl, HB0, Lib.hid (fun j hj => by omega)⟩
    case round =>
      obtain ⟨i, hi, rfl, HB, HA⟩ := hrel
      have ii : (i : Int) ≤ (n : Int) := by omega
      by_cases hlt : i < n
      · have ilt : (i : Int) < (n : Int) := by omega
        obtain ⟨b1, o1, x, e1, hb1, hc1, hxx⟩ := (HS.out.below HB.out).at (k := i) (by rw [hx.out]; exact hlt)
        subst e1
        have HC := Lib.hid (rfits_list k x wr)
        obtain ⟨f, HF⟩ : ∃ f, Hid (fitT k x = f) := ⟨_, rfl⟩
        rw [HF.out] at HC
        cases f with
        | true =>
          have HA2 : Hid (∀ j, j < i + 1 → fitT k (xs.getD j []) = true) := Lib.hid (fun j hj => by
            by_cases e : j = i
            · rw [e, hxx.out]; exact HF.out
            · exact HA.out j (by omega))
          go_wp2_with fail
          refine (HC.out).mono ?_
          rintro e w2 ⟨rfl, hb2⟩
          have HB2 := Lib.hid (HB.out.trans (hb2.mono HB.out.size))
          clear hb2
          go_wp2_with fail
          go_roundw
          case rel => exact ⟨i + 1, by omega, by go_num, HB2, HA2⟩
          case measure => simp [intOf]; omega
        | false =>
          obtain rfl : v = 41 := HNO.out i hlt (by rw [hxx.out]; exact HF.out)
          go_wp2_with fail
          refine (HC.out).mono ?_
          rintro e w2 ⟨rfl, hb2⟩
          have HB2 := Lib.hid (HB.out.trans (hb2.mono HB.out.size))
          clear hb2
          go_wp2_with fail
          go_ret
          exact ⟨rfl, HB2.out⟩
      · obtain rfl : i = n := by omega
        have ilt : ¬ (i : Int) < (i : Int) := by omega
        obtain rfl : v = 0 := HYES.out HA.out
        go_wp2_with fail
        go_ret
        exact ⟨rfl, HB.out⟩
end Go.Proofs.YtaedmojkoioifaaGreatDoor
