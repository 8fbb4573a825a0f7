/- The document's Fits answers as the program's; the law QuantityFits. -/
import Derived.Test.YtpnofkefcoaojaaGreatDoorQN
import Derived.Test.YtpnofkefcoaojaaGreatDoorQA
set_option maxHeartbeats 3200000
set_option maxRecDepth 100000
namespace Go.Proofs.YtpnofkefcoaojaaGreatDoor
open Go.RowKit Big
open Go.Lib
theorem sgn_int (z : Int) : sgnQ (z : Rat) = if z < 0 then -1 else if z = 0 then 0 else 1 := by
  unfold sgnQ; rw [Rat.num_intCast]
theorem rat_den1 {q : Rat} (h : q.den = 1) : q = ((q.num : Int) : Rat) := by
  apply Rat.ext
  · rw [Rat.num_intCast]
  · rw [Rat.den_intCast, h]
theorem lim_is (D : Nat) : ratv false D 1 = (((D : Int)) : Rat) := by
  have h := ratv_int (D : Int)
  rw [show decide ((D : Int) < 0) = false from by simp] at h
  exact h
theorem fit_cases (B C : Nat) (hB : B - 1 = C) (l : List UInt8) (q : Rat) (hq : num l = some q) :
    (decide (q.den = 1) = false ∧ (intT B l).isSome = false) ∨ (decide (q.den = 1) = true ∧ ¬ 0 ≤ sgnQ (q - -ratv false (2 ^ C) 1) ∧ (intT B l).isSome = false) ∨
    (decide (q.den = 1) = true ∧ 0 ≤ sgnQ (q - -ratv false (2 ^ C) 1) ∧ (intT B l).isSome = decide (sgnQ (q - ratv false (2 ^ C) 1) < 0)) := by
  have hi : intT B l = if q.den = 1 ∧ -((2 ^ C : Nat) : Int) ≤ q.num ∧ q.num < ((2 ^ C : Nat) : Int) then some q.num else none := by
    unfold intT; rw [hq, hB]
  rw [hi, lim_is]
  generalize 2 ^ C = D
  by_cases hd : q.den = 1
  · have e := rat_den1 hd
    generalize q.num = z at e
    subst e
    have e1 : ((z : Int) : Rat) - -((D : Int) : Rat) = ((z + D : Int) : Rat) := by rw [Rat.intCast_add]; grind
    have e2 : ((z : Int) : Rat) - ((D : Int) : Rat) = ((z - D : Int) : Rat) := by rw [Rat.intCast_sub]
    rw [e1, e2, sgn_int, sgn_int, Rat.den_intCast]
    right
    by_cases h1 : -(D : Int) ≤ z
    · right
      refine ⟨by simp, ?_, ?_⟩
      · split <;> (try split) <;> omega
      · by_cases h2 : z < (D : Int)
        · rw [if_pos ⟨rfl, h1, h2⟩, if_pos (show z - (D : Int) < 0 by omega)]; rfl
        · rw [if_neg (by omega), if_neg (show ¬ z - (D : Int) < 0 by omega)]
          split <;> rfl
    · left
      refine ⟨by simp, ?_, ?_⟩
      · rw [if_pos (by omega)]; omega
      · rw [if_neg (by omega)]; rfl
  · left
    refine ⟨by simpa using hd, ?_⟩
    rw [if_neg (by simp [hd])]; rfl
theorem two_lt9 {i : Nat} (h : i ≤ 63) : 2 ^ i < B9 ^ 4 := by
  have h1 : 2 ^ i ≤ 2 ^ 63 := Nat.pow_le_pow_right (by omega) h
  rw [B9_eq]
  omega
theorem rfits_list (k : Int) (l : List UInt8) (w : World) : Calls Tryz.prog 50 #[.int .i64 k, .string ⟨l.toArray⟩] w fun e w' => e = .returned (.bool (fitT k l)) ∧ Below w.heap.size w w' := by
  by_cases h1 : k < 1
  · have e : fitT k l = false := by unfold fitT; rw [if_neg (by omega), if_neg (by omega), if_neg (by omega), if_neg (by omega), if_neg (by omega)]
    rw [e]; exact rfits_low _ k h1 w
  by_cases h2 : 5 < k
  · have e : fitT k l = false := by unfold fitT; rw [if_neg (by omega), if_neg (by omega), if_neg (by omega), if_neg (by omega), if_neg (by omega)]
    rw [e]; exact rfits_high _ k h1 h2 w
  have hk5 : k = 1 ∨ k = 2 ∨ k = 3 ∨ k = 4 ∨ k = 5 := by omega
  by_cases hl : l = []
  · subst hl
    have e : fitT k [] = true := by rcases hk5 with rfl | rfl | rfl | rfl | rfl <;> rfl
    rw [e]
    exact rfits_nil k h1 h2 w (hiD fun W _ => risv_nil W)
  · have hl2 : l.isEmpty = false := by simpa using hl
    have h105 : ∀ f, (num l).isSome = f → Hid (∀ W, Below w.heap.size w W → Calls Tryz.prog 96 #[.string ⟨l.toArray⟩] W fun e w' => e = .returned (.bool f) ∧ Below W.heap.size W w') := fun f hf => hiD fun W _ => risv_some l hl hl2 f W (hiD fun W2 _ => by
      have h := rvalid_any ⟨l.toArray⟩ W2
      have e : (⟨l.toArray⟩ : ByteArray).data.toList = l := rfl
      rw [e, hf] at h
      exact h)
    cases hq : num l with
    | none =>
      have e : fitT k l = false := by
        have hi : ∀ B, intT B l = none := fun B => by unfold intT; rw [hq]
        unfold fitT
        rw [hl2, hi, hi, hi, hi, hq]
        rcases hk5 with rfl | rfl | rfl | rfl | rfl <;> rfl
      rw [e]
      exact rfits_bad _ k h1 h2 w (h105 false (by rw [hq]; rfl))
    | some q =>
      have g105 := h105 true (by rw [hq]; rfl)
      by_cases h5 : k = 5
      · subst h5
        have e : fitT 5 l = true := by unfold fitT; rw [hl2, hq]; rfl
        rw [e]
        exact rfits_num l hl hl2 w g105
      · obtain ⟨C, B, hk, hB, hfit⟩ : ∃ C B : Nat, ((k = 1 ∧ C = 7) ∨ (k = 2 ∧ C = 15) ∨ (k = 3 ∧ C = 31) ∨ (k = 4 ∧ C = 63)) ∧ B - 1 = C ∧ fitT k l = (intT B l).isSome := by
          rcases hk5 with rfl | rfl | rfl | rfl | rfl
          · exact ⟨7, 8, by omega, rfl, by unfold fitT; rw [hl2]; rfl⟩
          · exact ⟨15, 16, by omega, rfl, by unfold fitT; rw [hl2]; rfl⟩
          · exact ⟨31, 32, by omega, rfl, by unfold fitT; rw [hl2]; rfl⟩
          · exact ⟨63, 64, by omega, rfl, by unfold fitT; rw [hl2]; rfl⟩
          · exact absurd rfl h5
        have hC : C ≤ 63 := by omega
        have lq := num_lt9 hq
        have hlim : QLt 4 (ratv false (2 ^ C) 1) := by
          rw [lim_is]
          exact ⟨by rw [Rat.num_intCast]; exact two_lt9 hC, by rw [Rat.den_intCast, B9_eq]; omega⟩
        rw [hfit]
        exact rfits_main l hl hl2 k C hk q (ratv false (2 ^ C) 1) _ _ _ _ (hiD (fit_cases B C hB l q hq)) w g105
          (hiD fun W _ => get_flag ⟨l.toArray⟩ (some q) hq W) (hiD fun W => one_any W) (hiD fun W => natOf_any 2 W (by omega))
          (hiD fun W u v i hi hu hv => by
            rw [Nat.pow_succ]
            exact natMul_nat u v (2 ^ i) 2 4 1 W (by unfold most; omega) (by unfold most; omega) (two_lt9 hi) (by rw [Nat.pow_one, B9_eq]; omega) hu hv)
          (hiD fun W u v hu hv => (make_any false u v (2 ^ C) 1 4 W (by omega) (two_lt9 hC) (by rw [B9_eq]; omega) hu hv).mono fun e w' h => h.c)
          (hiD fun W u hu => whole_any u q 5 W (by omega) (by omega) lq hu)
          (hiD fun W u hu => (opp_any u _ W hu).mono fun e w' h => h.c)
          (hiD fun W u v hu hv => cmp_any u v q _ 5 4 W (by omega) lq hlim.neg hu hv)
          (hiD fun W u v hu hv => cmp_any u v q _ 5 4 W (by omega) lq hlim hu hv)
end Go.Proofs.YtpnofkefcoaojaaGreatDoor
set_option maxHeartbeats 2000000
set_option maxRecDepth 100000
namespace Go.Proofs.YtpnofkefcoaojaaGreatDoor
open Go.RowKit
open Go.Lib
def widT (k : Int) : Nat := if k = 1 then 1 else if k = 2 then 2 else if k = 3 then 4 else if k = 4 then 8 else 0
def isT (k : Int) : Bool := decide (1 ≤ k) && decide (k ≤ 5)
theorem widT_out {k : Int} (h : k < 1 ∨ 4 < k) : widT k = 0 := by
  unfold widT
  rw [if_neg (by omega), if_neg (by omega), if_neg (by omega), if_neg (by omega)]
theorem kinds (k : Int) : k = 1 ∨ k = 2 ∨ k = 3 ∨ k = 4 ∨ k = 5 ∨ k < 1 ∨ 5 < k := by omega
def chkE (k : Int) (xs : List (List UInt8)) : Int := if isT k = false then 2 else if xs.all (fitT k) = false then 41 else 0
theorem width_any (k : Int) (w : World) : Calls Tryz.prog 13 #[.int .i64 k] w fun e w' => e = .returned (.int .i64 (widT k : Int)) ∧ w = w' := by
  by_cases h1 : k = 1
  · subst h1
    go_enter Tryz.func13, Tryz.ntmps13
    go_wp2_with fail
    go_ret
    exact ⟨rfl, rfl⟩
  by_cases h2 : k = 2
  · subst h2
    go_enter Tryz.func13, Tryz.ntmps13
    go_wp2_with fail
    go_ret
    exact ⟨rfl, rfl⟩
  by_cases h3 : k = 3
  · subst h3
    go_enter Tryz.func13, Tryz.ntmps13
    go_wp2_with fail
    go_ret
    exact ⟨rfl, rfl⟩
  by_cases h4 : k = 4
  · subst h4
    go_enter Tryz.func13, Tryz.ntmps13
    go_wp2_with fail
    go_ret
    exact ⟨rfl, rfl⟩
  have e : widT k = 0 := by unfold widT; rw [if_neg h1, if_neg h2, if_neg h3, if_neg h4]
  rw [e]
  have g1 : (k == 1) = false := by simpa using h1
  have g2 : (k == 2) = false := by simpa using h2
  have g3 : (k == 3) = false := by simpa using h3
  have g4 : (k == 4) = false := by simpa using h4
  go_enter Tryz.func13, Tryz.ntmps13
  go_wp2_with fail
  go_ret
  exact ⟨rfl, rfl⟩
theorem isType_any (k : Int) (w : World) : Calls Tryz.prog 39 #[.int .i64 k] w fun e w' => e = .returned (.bool (isT k)) ∧ w = w' := by
  have HW := Lib.hid (width_any k w)
  obtain ⟨d, HD⟩ : ∃ d, Hid (d = widT k) := ⟨_, rfl⟩
  rw [← HD.out] at HW
  obtain ⟨b, HB⟩ : ∃ b, Hid (b = isT k) := ⟨_, rfl⟩
  rw [← HB.out]
  by_cases h : 1 ≤ k ∧ k ≤ 4
  · obtain rfl : b = true := by rw [HB.out]; unfold isT; rw [decide_eq_true h.1, decide_eq_true (by omega)]; rfl
    have hd : (0 : Int) < (d : Int) := by
      have : 0 < d := by
        rw [HD.out]; unfold widT
        have : k = 1 ∨ k = 2 ∨ k = 3 ∨ k = 4 := by omega
        rcases this with rfl | rfl | rfl | rfl <;> decide
      omega
    go_enter Tryz.func39, Tryz.ntmps39
    go_wp2_with fail
    refine (HW.out).mono ?_
    rintro e w' ⟨rfl, rfl⟩
    go_wp2_with fail
    go_ret
    exact ⟨rfl, rfl⟩
  · obtain rfl : d = 0 := by rw [HD.out]; exact widT_out (by omega)
    by_cases h5 : k = 5
    · subst h5
      obtain rfl : b = true := HB.out
      go_enter Tryz.func39, Tryz.ntmps39
      go_wp2_with fail
      refine (HW.out).mono ?_
      rintro e w' ⟨rfl, rfl⟩
      go_wp2_with fail
      go_ret
      exact ⟨rfl, rfl⟩
    · obtain rfl : b = false := by
        rw [HB.out]; unfold isT
        by_cases h1 : 1 ≤ k
        · rw [decide_eq_false (show ¬ k ≤ 5 by omega), Bool.and_false]
        · rw [decide_eq_false h1]; rfl
      have g5 : (k == 5) = false := by simpa using h5
      go_enter Tryz.func39, Tryz.ntmps39
      go_wp2_with fail
      refine (HW.out).mono ?_
      rintro e w' ⟨rfl, rfl⟩
      go_wp2_with fail
      go_ret
      exact ⟨rfl, rfl⟩
theorem risType_any (k : Int) (w : World) : Calls Tryz.prog 41 #[.int .i64 k] w fun e w' => e = .returned (.bool (isT k)) ∧ w = w' := by
  obtain ⟨b, HB⟩ : ∃ b, Hid (b = isT k) := ⟨_, rfl⟩
  rw [← HB.out]
  by_cases h1 : 1 ≤ k
  · by_cases h5 : k ≤ 5
    · obtain rfl : b = true := by rw [HB.out]; unfold isT; rw [decide_eq_true h1, decide_eq_true h5]; rfl
      go_enter Tryz.func41, Tryz.ntmps41
      go_wp2_with fail
      go_ret
      exact ⟨rfl, rfl⟩
    · obtain rfl : b = false := by rw [HB.out]; unfold isT; rw [decide_eq_false h5, Bool.and_false]
      have h6 : 5 < k := by omega
      go_enter Tryz.func41, Tryz.ntmps41
      go_wp2_with fail
      go_ret
      exact ⟨rfl, rfl⟩
  · obtain rfl : b = false := by rw [HB.out]; unfold isT; rw [decide_eq_false h1]; rfl
    have h6 : k < 1 := by omega
    go_enter Tryz.func41, Tryz.ntmps41
    go_wp2_with fail
    go_ret
    exact ⟨rfl, rfl⟩
theorem checkV_any (k : Int) (p : Option Addr) (c n : Nat) (xs : List (List UInt8)) (w : World) (hx : Hid (xs.length = n)) (hn : n ≤ 4096) (hs : Ss w p xs) (he : Env w) :
    Calls Tryz.prog 44 #[.int .i64 k, .slice p n c] w fun e w' => e = .returned (.int .i64 (chkE k xs)) ∧ Below w.heap.size w w' := by
  have HS := Lib.hid hs
  have hn' : (n : Int) ≤ 4096 := by omega
  have HT := Lib.hid (fun W => isType_any k W)
  have HE := Lib.hid he
  clear he
  obtain ⟨b, HBT⟩ : ∃ b, Hid (isT k = b) := ⟨_, rfl⟩
  rw [HBT.out] at HT
  obtain ⟨v, HV⟩ : ∃ v, Hid (v = chkE k xs) := ⟨_, rfl⟩
  rw [← HV.out]
  have HB0 := Lib.hid (Below.refl w.heap.size w)
  clear hs
  cases b with
  | false =>
    obtain rfl : v = 2 := by rw [HV.out]; unfold chkE; rw [if_pos HBT.out]
    go_enter Tryz.func44, Tryz.ntmps44
    go_wp2_with fail
    refine (HT.out _).mono ?_
    rintro e w' ⟨rfl, rfl⟩
    go_wp2_with fail
    go_ret
    exact ⟨rfl, HB0.out⟩
  | true =>
    have HNO : Hid (∀ j, j < n → fitT k (xs.getD j []) = false → v = 41) := Lib.hid (fun j hj h => by
      rw [HV.out]; unfold chkE
      rw [if_neg (by rw [HBT.out]; simp), if_pos]
      rw [List.all_eq_false]
      have hj2 : j < xs.length := by rw [hx.out]; exact hj
      rw [List.getD_eq_getElem?_getD, List.getElem?_eq_getElem hj2] at h
      exact ⟨_, List.getElem_mem hj2, by simpa using h⟩)
    have HYES : Hid ((∀ j, j < n → fitT k (xs.getD j []) = true) → v = 0) := Lib.hid (fun h => by
      rw [HV.out]; unfold chkE
      rw [if_neg (by rw [HBT.out]; simp), if_neg]
      rw [Bool.not_eq_false, List.all_eq_true]
      intro x hx2
      obtain ⟨j, hj, rfl⟩ := List.getElem_of_mem hx2
      have := h j (by rw [← hx.out]; exact hj)
      rwa [List.getD_eq_getElem?_getD, List.getElem?_eq_getElem hj] at this)
    go_enter Tryz.func44, Tryz.ntmps44
    go_wp2_with fail
    refine (HT.out _).mono ?_
    rintro e w' ⟨rfl, rfl⟩
    go_wp2_with fail
    refine (isCount_any n hn' _).mono ?_
    rintro e w' ⟨rfl, rfl⟩
    go_wp2_with fail
    go_loopw [16] (fun iv wr => ∃ i : Nat, i ≤ n ∧ iv = .int .i64 i ∧ Hid (Below w.heap.size w wr) ∧ Hid (∀ j, j < i → fitT k (xs.getD j []) = true)) (fun iv _ => n - (intOf iv).toNat)
    case atStart => exact ⟨0, Nat.zero_le _, rfl, HB0, Lib.hid (fun j hj => by omega)⟩
    case round =>
      obtain ⟨i, hi, rfl, HB, HA⟩ := hrel
      have ii : (i : Int) ≤ (n : Int) := by omega
      by_cases hlt : i < n
      · have ilt : (i : Int) < (n : Int) := by omega
        obtain ⟨b1, o1, x, e1, hb1, hc1, hxx⟩ := (HS.out.below HB.out).at (k := i) (by rw [hx.out]; exact hlt)
        subst e1
        have HC := Lib.hid (pfits_list k x wr (HE.out.below HB.out))
        obtain ⟨f, HF⟩ : ∃ f, Hid (fitT k x = f) := ⟨_, rfl⟩
        rw [HF.out] at HC
        cases f with
        | true =>
          have HA2 : Hid (∀ j, j < i + 1 → fitT k (xs.getD j []) = true) := Lib.hid (fun j hj => by
            by_cases e : j = i
            · rw [e, hxx.out]; exact HF.out
            · exact HA.out j (by omega))
          go_wp2_with fail
          refine (HC.out).mono ?_
          rintro e w2 ⟨rfl, hb2⟩
          have HB2 := Lib.hid (HB.out.trans (hb2.mono HB.out.size))
          clear hb2
          go_wp2_with fail
          go_roundw
          case rel => exact ⟨i + 1, by omega, by go_num, HB2, HA2⟩
          case measure => simp [intOf]; omega
        | false =>
          obtain rfl : v = 41 := HNO.out i hlt (by rw [hxx.out]; exact HF.out)
          go_wp2_with fail
          refine (HC.out).mono ?_
          rintro e w2 ⟨rfl, hb2⟩
          have HB2 := Lib.hid (HB.out.trans (hb2.mono HB.out.size))
          clear hb2
          go_wp2_with fail
          go_ret
          exact ⟨rfl, HB2.out⟩
      · obtain rfl : i = n := by omega
        have ilt : ¬ (i : Int) < (i : Int) := by omega
        obtain rfl : v = 0 := HYES.out HA.out
        go_wp2_with fail
        go_ret
        exact ⟨rfl, HB.out⟩
theorem unwell_any (k : Int) (p : Option Addr) (c n : Nat) (xs : List (List UInt8)) (w : World) (hx : Hid (xs.length = n)) (hn : n ≤ 4096) (hs : Ss w p xs) :
    Calls Tryz.prog 48 #[.int .i64 k, .slice p n c] w fun e w' => e = .returned (.int .i64 (chkE k xs)) ∧ Below w.heap.size w w' := by
  have HS := Lib.hid hs
  have hn' : (n : Int) ≤ 4096 := by omega
  have HT := Lib.hid (fun W => risType_any k W)
  obtain ⟨b, HBT⟩ : ∃ b, Hid (isT k = b) := ⟨_, rfl⟩
  rw [HBT.out] at HT
  obtain ⟨v, HV⟩ : ∃ v, Hid (v = chkE k xs) := ⟨_, rfl⟩
  rw [← HV.out]
  have HB0 := Lib.hid (Below.refl w.heap.size w)
  clear hs
  cases b with
  | false =>
    obtain rfl : v = 2 := by rw [HV.out]; unfold chkE; rw [if_pos HBT.out]
    go_enter Tryz.func48, Tryz.ntmps48
    go_wp2_with fail
    refine (HT.out _).mono ?_
    rintro e w' ⟨rfl, rfl⟩
    go_wp2_with fail
    go_ret
    exact ⟨rfl, HB0.out⟩
  | true =>
    have HNO : Hid (∀ j, j < n → fitT k (xs.getD j []) = false → v = 41) := Lib.hid (fun j hj h => by
      rw [HV.out]; unfold chkE
      rw [if_neg (by rw [HBT.out]; simp), if_pos]
      rw [List.all_eq_false]
      have hj2 : j < xs.length := by rw [hx.out]; exact hj
      rw [List.getD_eq_getElem?_getD, List.getElem?_eq_getElem hj2] at h
      exact ⟨_, List.getElem_mem hj2, by simpa using h⟩)
    have HYES : Hid ((∀ j, j < n → fitT k (xs.getD j []) = true) → v = 0) := Lib.hid (fun h => by
      rw [HV.out]; unfold chkE
      rw [if_neg (by rw [HBT.out]; simp), if_neg]
      rw [Bool.not_eq_false, List.all_eq_true]
      intro x hx2
      obtain ⟨j, hj, rfl⟩ := List.getElem_of_mem hx2
      have := h j (by rw [← hx.out]; exact hj)
      rwa [List.getD_eq_getElem?_getD, List.getElem?_eq_getElem hj] at this)
    go_enter Tryz.func48, Tryz.ntmps48
    go_wp2_with fail
    refine (HT.out _).mono ?_
    rintro e w' ⟨rfl, rfl⟩
    go_wp2_with fail
    go_loopw [5] (fun iv wr => ∃ i : Nat, i ≤ n ∧ iv = .int .i64 i ∧ Hid (Below w.heap.size w wr) ∧ Hid (∀ j, j < i → fitT k (xs.getD j []) = true)) (fun iv _ => n - (intOf iv).toNat)
    case atStart => exact ⟨0, Nat.zero_le _, rfl, HB0, Lib.hid (fun j hj => by omega)⟩
    case round =>
      obtain ⟨i, hi, rfl, HB, HA⟩ := hrel
      have ii : (i : Int) ≤ (n : Int) := by omega
      by_cases hlt : i < n
      · have ilt : (i : Int) < (n : Int) := by omega
        obtain ⟨b1, o1, x, e1, hb1, hc1, hxx⟩ := (HS.out.below HB.out).at (k := i) (by rw [hx.out]; exact hlt)
        subst e1
        have HC := Lib.hid (rfits_list k x wr)
        obtain ⟨f, HF⟩ : ∃ f, Hid (fitT k x = f) := ⟨_, rfl⟩
        rw [HF.out] at HC
        cases f with
        | true =>
          have HA2 : Hid (∀ j, j < i + 1 → fitT k (xs.getD j []) = true) := Lib.hid (fun j hj => by
            by_cases e : j = i
            · rw [e, hxx.out]; exact HF.out
            · exact HA.out j (by omega))
          go_wp2_with fail
          refine (HC.out).mono ?_
          rintro e w2 ⟨rfl, hb2⟩
          have HB2 := Lib.hid (HB.out.trans (hb2.mono HB.out.size))
          clear hb2
          go_wp2_with fail
          go_roundw
          case rel => exact ⟨i + 1, by omega, by go_num, HB2, HA2⟩
          case measure => simp [intOf]; omega
        | false =>
          obtain rfl : v = 41 := HNO.out i hlt (by rw [hxx.out]; exact HF.out)
          go_wp2_with fail
          refine (HC.out).mono ?_
          rintro e w2 ⟨rfl, hb2⟩
          have HB2 := Lib.hid (HB.out.trans (hb2.mono HB.out.size))
          clear hb2
          go_wp2_with fail
          go_ret
          exact ⟨rfl, HB2.out⟩
      · obtain rfl : i = n := by omega
        have ilt : ¬ (i : Int) < (i : Int) := by omega
        obtain rfl : v = 0 := HYES.out HA.out
        go_wp2_with fail
        go_ret
        exact ⟨rfl, HB.out⟩
end Go.Proofs.YtpnofkefcoaojaaGreatDoor
