/- What was put is read again: arithmetic. -/
import Derived.Test.YtaedmojkoioifaaGreatDoorKH
import Derived.Laws.BitsAllLaws
namespace Go.Proofs.YtaedmojkoioifaaGreatDoor
open Go.RowKit
open Go.Lib
theorem nb_from (l : List UInt8) : ∀ x, l.foldl (fun x (c : UInt8) => x * 256 + c.toNat) x = x * 256 ^ l.length + nb l := by
  induction l with
  | nil => intro x; simp [nb]
  | cons c l ih =>
    intro x
    have h0 : nb (c :: l) = (0 * 256 + c.toNat) * 256 ^ l.length + nb l := by show List.foldl _ _ (c :: l) = _; rw [List.foldl_cons, ih]
    rw [List.foldl_cons, ih, h0, List.length_cons, Nat.pow_succ, Nat.add_mul, Nat.zero_mul, Nat.zero_add, Nat.mul_comm (256 ^ l.length) 256, ← Nat.mul_assoc, Nat.add_assoc]
theorem nb_cons (c : UInt8) (l : List UInt8) : nb (c :: l) = c.toNat * 256 ^ l.length + nb l := by
  show List.foldl _ _ (c :: l) = _
  rw [List.foldl_cons, nb_from, Nat.zero_mul, Nat.zero_add]
theorem nb_be (x : Nat) : ∀ n, nb (be n x) = x % 256 ^ n
  | 0 => by rw [be, Nat.pow_zero, Nat.mod_one]; rfl
  | n + 1 => by
    rw [be, nb_cons, be_length, nb_be x n, show (UInt8.ofNat (x / 256 ^ n % 256)).toNat = x / 256 ^ n % 256 by rw [UInt8.toNat_ofNat']; exact Nat.mod_mod _ _, @Nat.pow_succ 256 n, @Nat.mod_mul (256 ^ n) 256 x, Nat.mul_comm, Nat.add_comm]
theorem pow_dvd64 (k : Int) : (256 ^ widT k : Nat) ∣ 18446744073709551616 := by
  have := widT_le k
  refine ⟨256 ^ (8 - widT k), ?_⟩
  rw [← Nat.pow_add, show widT k + (8 - widT k) = 8 by omega]
theorem pow_256 (n : Nat) : 256 ^ n = 2 ^ (8 * n) := by rw [Nat.pow_mul]
theorem sg_back {z : Int} {n N : Nat} (h1 : 1 ≤ n) (hN : ((2 ^ (8 * n) : Nat) : Int) ∣ z - (N : Int)) (hlt : N < 2 ^ (8 * n)) (hl : -((2 ^ (8 * n - 1) : Nat) : Int) ≤ z) (hh : z < ((2 ^ (8 * n - 1) : Nat) : Int)) : sgI n N = z := by
  have hp : 2 ^ (8 * n) = 2 * 2 ^ (8 * n - 1) := by
    rw [show 8 * n = (8 * n - 1) + 1 by omega, Nat.pow_succ]; simp; omega
  unfold sgI
  rw [hp] at hN hlt ⊢
  generalize 2 ^ (8 * n - 1) = H at *
  obtain ⟨d, hd⟩ := hN
  have hd2 : z - (N : Int) = 2 * (H : Int) * d := by rw [hd, Int.natCast_mul]; rfl
  split
  · have : d = -1 := by
      have e1 : d < 0 := by
        rcases Int.lt_or_le d 0 with h | h
        · exact h
        · have : 0 ≤ 2 * (H : Int) * d := Int.mul_nonneg (by omega) h
          omega
      have e2 : -2 < d := by
        rcases Int.lt_or_le (-2) d with h | h
        · exact h
        · have : 2 * (H : Int) * d ≤ 2 * (H : Int) * (-2) := Int.mul_le_mul_of_nonneg_left h (by omega)
          omega
      omega
    subst this
    omega
  · have : d = 0 := by
      have e1 : d < 1 := by
        rcases Int.lt_or_le d 1 with h | h
        · exact h
        · have : 2 * (H : Int) * 1 ≤ 2 * (H : Int) * d := Int.mul_le_mul_of_nonneg_left h (by omega)
          omega
      have e2 : -1 < d := by
        rcases Int.lt_or_le (-1) d with h | h
        · exact h
        · have : 2 * (H : Int) * d ≤ 2 * (H : Int) * (-1) := Int.mul_le_mul_of_nonneg_left h (by omega)
          omega
      omega
    subst this
    omega
theorem int_back {k : Int} {x : List UInt8} (h : fitT k x = true) (h1 : 1 ≤ k) (h4 : k ≤ 4) (hx : x ≠ []) : Lib.itoa (sgI (widT k) (nb (be (widT k) (vT x)))) = x := by
  obtain ⟨q, hq, hd, hl, hh⟩ := fit_int h h1 h4 hx
  have hw := widT_pos h1 h4
  have e : sgI (widT k) (nb (be (widT k) (vT x))) = q.num := by
    rw [nb_be]
    have hv : (vT x : Int) = q.num % 18446744073709551616 := by
      unfold vT; rw [hq]
      show (((q.num % 18446744073709551616).toNat : Nat) : Int) = _
      omega
    refine sg_back (by omega) ?_ (by rw [← pow_256]; exact Nat.mod_lt _ (Nat.pow_pos (by omega))) hl hh
    rw [← pow_256]
    obtain ⟨m, hm⟩ := pow_dvd64 k
    refine ⟨q.num / 18446744073709551616 * m + (vT x : Int) / ((256 ^ widT k : Nat) : Int), ?_⟩
    have a1 := Int.emod_add_mul_ediv q.num 18446744073709551616
    have a2 := Int.emod_add_mul_ediv (vT x : Int) ((256 ^ widT k : Nat) : Int)
    have hm2 : (18446744073709551616 : Int) = ((256 ^ widT k : Nat) : Int) * (m : Int) := by
      rw [← Int.natCast_mul, ← hm]; rfl
    rw [Int.natCast_emod]
    generalize ((256 ^ widT k : Nat) : Int) = A at *
    rw [← hv, hm2] at a1
    rw [Int.mul_add]
    have e1 : A * (q.num / 18446744073709551616 * (m : Int)) = A * (m : Int) * (q.num / (A * (m : Int))) := by
      rw [hm2, Int.mul_comm (q.num / (A * (m : Int))) (m : Int), Int.mul_assoc]
    rw [e1]
    omega
  rw [e]
  have hwr := num_wrote hq
  rw [if_pos hd, List.append_nil] at hwr
  rw [hwr]
  unfold Lib.itoa
  by_cases hn : q.num < 0
  · rw [if_pos hn, decide_eq_true hn]; rfl
  · rw [if_neg hn, decide_eq_false hn, show q.num.toNat = q.num.natAbs by omega]; rfl
theorem stP_bit (xs : List (List UInt8)) (P : Nat) : ∀ m, m ≤ 8 * P → ∀ i, i < 8 * P → ((stP xs P m).getD (i / 8) 0).toNat.testBit (i % 8) = decide (i < m ∧ xs.getD i [] ≠ [])
  | 0, _, i, hi => by
    rw [stP, List.getD_eq_getElem?_getD, List.getElem?_replicate, if_pos (by omega)]
    simp
  | m + 1, hm, i, hi => by
    have ih := stP_bit xs P m (by omega) i hi
    rw [stP]
    by_cases he : xs.getD m [] = []
    · rw [if_pos he, ih]
      congr 1
      refine propext ⟨fun h => ⟨by omega, h.2⟩, fun h => ⟨?_, h.2⟩⟩
      rcases Nat.lt_or_ge i m with h2 | h2
      · exact h2
      · have : i = m := by omega
        subst this; exact absurd he h.2
    · rw [if_neg he]
      have hl := stP_len xs P m
      by_cases hj : i / 8 = m / 8
      · rw [hj, List.getD_eq_getElem?_getD, List.getElem?_set_self (by rw [hl]; omega), Option.getD_some, orB_toNat _ (Nat.mod_lt _ (by omega)), Nat.testBit_or, ← hj, ih, Nat.testBit_two_pow]
        by_cases him : i = m
        · subst him
          rw [decide_eq_true rfl, Bool.or_true]
          exact (decide_eq_true ⟨Nat.lt_succ_self _, he⟩).symm
        · have h1 : ¬ m % 8 = i % 8 := by omega
          rw [decide_eq_false h1, Bool.or_false]
          congr 1
          refine propext ⟨fun h => ⟨by omega, h.2⟩, fun h => ⟨by omega, h.2⟩⟩
      · rw [List.getD_eq_getElem?_getD, List.getElem?_set_ne (fun e => hj e.symm), ← List.getD_eq_getElem?_getD, ih]
        congr 1
        refine propext ⟨fun h => ⟨by omega, h.2⟩, fun h => ⟨by
          rcases Nat.lt_or_ge i m with h2 | h2
          · exact h2
          · have : i = m := by omega
            subst this; exact absurd rfl hj, h.2⟩⟩
theorem bit_and (c : UInt8) (r : Nat) : bits .and .u8 ((c.toNat : Int) / 2 ^ r) 1 = (if c.toNat.testBit r then 1 else 0) := by
  have h1 : c.toNat < 256 := c.toNat_lt
  have e : (c.toNat : Int) / 2 ^ r = ((c.toNat / 2 ^ r : Nat) : Int) := by
    rw [show (2 : Int) ^ r = ((2 ^ r : Nat) : Int) by simp]; rfl
  have h2 : c.toNat / 2 ^ r < 256 := Nat.lt_of_le_of_lt (Nat.div_le_self _ _) h1
  rw [e]
  have h3 := u8_and_nat (c.toNat / 2 ^ r) 1 h2 (by omega)
  rw [show ((1 : Nat) : Int) = 1 from rfl] at h3
  rw [h3, Nat.testBit_eq_decide_div_mod_eq, Nat.and_one_is_mod]
  have h4 := Nat.mod_two_eq_zero_or_one (c.toNat / 2 ^ r)
  rcases h4 with h4 | h4 <;> rw [h4] <;> rfl
end Go.Proofs.YtaedmojkoioifaaGreatDoor
