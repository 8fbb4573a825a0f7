/- The document's Fits answers as the program's; the law QuantityFits. -/
import Derived.Test.YtaedmojkoioifaaGreatDoorQN
set_option maxHeartbeats 3200000
set_option maxRecDepth 100000
namespace Go.Proofs.YtaedmojkoioifaaGreatDoor
open Go.RowKit Big
open Go.Lib
theorem sgn_int (z : Int) : sgnQ (z : Rat) = if z < 0 then -1 else if z = 0 then 0 else 1 := by
  unfold sgnQ; rw [Rat.num_intCast]
theorem rat_den1 {q : Rat} (h : q.den = 1) : q = ((q.num : Int) : Rat) := by
  apply Rat.ext
  · rw [Rat.num_intCast]
  · rw [Rat.den_intCast, h]
theorem lim_is (D : Nat) : ratv false D 1 = (((D : Int)) : Rat) := by
  have h := ratv_int (D : Int)
  rw [show decide ((D : Int) < 0) = false from by simp] at h
  exact h
theorem fit_cases (B C : Nat) (hB : B - 1 = C) (l : List UInt8) (q : Rat) (hq : num l = some q) :
    (decide (q.den = 1) = false ∧ (intT B l).isSome = false) ∨ (decide (q.den = 1) = true ∧ ¬ 0 ≤ sgnQ (q - -ratv false (2 ^ C) 1) ∧ (intT B l).isSome = false) ∨
    (decide (q.den = 1) = true ∧ 0 ≤ sgnQ (q - -ratv false (2 ^ C) 1) ∧ (intT B l).isSome = decide (sgnQ (q - ratv false (2 ^ C) 1) < 0)) := by
  have hi : intT B l = if q.den = 1 ∧ -((2 ^ C : Nat) : Int) ≤ q.num ∧ q.num < ((2 ^ C : Nat) : Int) then some q.num else none := by
    unfold intT; rw [hq, hB]
  rw [hi, lim_is]
  generalize 2 ^ C = D
  by_cases hd : q.den = 1
  · have e := rat_den1 hd
    generalize q.num = z at e
    subst e
    have e1 : ((z : Int) : Rat) - -((D : Int) : Rat) = ((z + D : Int) : Rat) := by rw [Rat.intCast_add]; grind
    have e2 : ((z : Int) : Rat) - ((D : Int) : Rat) = ((z - D : Int) : Rat) := by rw [Rat.intCast_sub]
    rw [e1, e2, sgn_int, sgn_int, Rat.den_intCast]
    right
    by_cases h1 : -(D : Int) ≤ z
    · right
      refine ⟨by simp, ?_, ?_⟩
      · split <;> (try split) <;> omega
      · by_cases h2 : z < (D : Int)
        · rw [if_pos ⟨rfl, h1, h2⟩, if_pos (show z - (D : Int) < 0 by omega)]; rfl
        · rw [if_neg (by omega), if_neg (show ¬ z - (D : Int) < 0 by omega)]
          split <;> rfl
    · left
      refine ⟨by simp, ?_, ?_⟩
      · rw [if_pos (by omega)]; omega
      · rw [if_neg (by omega)]; rfl
  · left
    refine ⟨by simpa using hd, ?_⟩
    rw [if_neg (by simp [hd])]; rfl
theorem two_lt9 {i : Nat} (h : i ≤ 63) : 2 ^ i < B9 ^ 4 := by
  have h1 : 2 ^ i ≤ 2 ^ 63 := Nat.pow_le_pow_right (by omega) h
  rw [B9_eq]
  omega
theorem rfits_list (k : Int) (l : List UInt8) (w : World) : Calls Tryz.prog 31 #[.int .i64 k, .string ⟨l.toArray⟩] w fun e w' => e = .returned (.bool (fitT k l)) ∧ Below w.heap.size w w' := by
  by_cases h1 : k < 1
  · have e : fitT k l = false := by unfold fitT; rw [if_neg (by omega), if_neg (by omega), if_neg (by omega), if_neg (by omega), if_neg (by omega)]
    rw [e]; exact rfits_low _ k h1 w
  by_cases h2 : 5 < k
  · have e : fitT k l = false := by unfold fitT; rw [if_neg (by omega), if_neg (by omega), if_neg (by omega), if_neg (by omega), if_neg (by omega)]
    rw [e]; exact rfits_high _ k h1 h2 w
  have hk5 : k = 1 ∨ k = 2 ∨ k = 3 ∨ k = 4 ∨ k = 5 := by omega
  by_cases hl : l = []
  · subst hl
    have e : fitT k [] = true := by rcases hk5 with rfl | rfl | rfl | rfl | rfl <;> rfl
    rw [e]
    exact rfits_nil k h1 h2 w (hiD fun W _ => risv_nil W)
  · have hl2 : l.isEmpty = false := by simpa using hl
    have h105 : ∀ f, (num l).isSome = f → Hid (∀ W, Below w.heap.size w W → Calls Tryz.prog 43 #[.string ⟨l.toArray⟩] W fun e w' => e = .returned (.bool f) ∧ Below W.heap.size W w') := fun f hf => hiD fun W _ => risv_some l hl hl2 f W (hiD fun W2 _ => by
      have h := rvalid_any ⟨l.toArray⟩ W2
      have e : (⟨l.toArray⟩ : ByteArray).data.toList = l := rfl
      rw [e, hf] at h
      exact h)
    cases hq : num l with
    | none =>
      have e : fitT k l = false := by
        have hi : ∀ B, intT B l = none := fun B => by unfold intT; rw [hq]
        unfold fitT
        rw [hl2, hi, hi, hi, hi, hq]
        rcases hk5 with rfl | rfl | rfl | rfl | rfl <;> rfl
      rw [e]
      exact rfits_bad _ k h1 h2 w (h105 false (by rw [hq]; rfl))
    | some q =>
      have g105 := h105 true (by rw [hq]; rfl)
      by_cases h5 : k = 5
      · subst h5
        have e : fitT 5 l = true := by unfold fitT; rw [hl2, hq]; rfl
        rw [e]
        exact rfits_num l hl hl2 w g105
      · obtain ⟨C, B, hk, hB, hfit⟩ : ∃ C B : Nat, ((k = 1 ∧ C = 7) ∨ (k = 2 ∧ C = 15) ∨ (k = 3 ∧ C = 31) ∨ (k = 4 ∧ C = 63)) ∧ B - 1 = C ∧ fitT k l = (intT B l).isSome := by
          rcases hk5 with rfl | rfl | rfl | rfl | rfl
          · exact ⟨7, 8, by omega, rfl, by unfold fitT; rw [hl2]; rfl⟩
          · exact ⟨15, 16, by omega, rfl, by unfold fitT; rw [hl2]; rfl⟩
          · exact ⟨31, 32, by omega, rfl, by unfold fitT; rw [hl2]; rfl⟩
          · exact ⟨63, 64, by omega, rfl, by unfold fitT; rw [hl2]; rfl⟩
          · exact absurd rfl h5
        have hC : C ≤ 63 := by omega
        have lq := num_lt9 hq
        have hlim : QLt 4 (ratv false (2 ^ C) 1) := by
          rw [lim_is]
          exact ⟨by rw [Rat.num_intCast]; exact two_lt9 hC, by rw [Rat.den_intCast, B9_eq]; omega⟩
        rw [hfit]
        exact rfits_main l hl hl2 k C hk q (ratv false (2 ^ C) 1) _ _ _ _ (hiD (fit_cases B C hB l q hq)) w g105
          (hiD fun W _ => get_flag ⟨l.toArray⟩ (some q) hq W) (hiD fun W => one_any W) (hiD fun W => natOf_any 2 W (by omega))
          (hiD fun W u v i hi hu hv => by
            rw [Nat.pow_succ]
            exact natMul_nat u v (2 ^ i) 2 4 1 W (by unfold most; omega) (by unfold most; omega) (two_lt9 hi) (by rw [Nat.pow_one, B9_eq]; omega) hu hv)
          (hiD fun W u v hu hv => (make_any false u v (2 ^ C) 1 4 W (by omega) (two_lt9 hC) (by rw [B9_eq]; omega) hu hv).mono fun e w' h => h.c)
          (hiD fun W u hu => whole_any u q 5 W (by omega) (by omega) lq hu)
          (hiD fun W u hu => (opp_any u _ W hu).mono fun e w' h => h.c)
          (hiD fun W u v hu hv => cmp_any u v q _ 5 4 W (by omega) lq hlim.neg hu hv)
          (hiD fun W u v hu hv => cmp_any u v q _ 5 4 W (by omega) lq hlim hu hv)
end Go.Proofs.YtaedmojkoioifaaGreatDoor
