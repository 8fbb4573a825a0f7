/- Integers in texts: what ParseInt makes of a number's text. -/
import Derived.Test.YtigidchicloleaaGreatDoorPart09
import Derived.Lib.ParseIntBCases
namespace Go.Proofs.YtigidchicloleaaGreatDoor
open Go.RowKit Big
open Go.Lib
theorem dec_byte {n : Nat} (h : n < 10) : (UInt8.ofNat (48 + n)).toNat = 48 + n := by
  rw [UInt8.toNat_ofNat']; omega
theorem pu_dec (M : Nat) (hM : M ≤ 18446744073709551615) (u : Nat) : ∀ r, parseUintM M 0 (decDigits u ++ r) = if u ≤ M then parseUintM M u r else .range := by
  induction u using Nat.strongRecOn with
  | _ u ih =>
    intro r
    by_cases h : u < 10
    · rw [decDigits_one h, List.singleton_append, parseUintM, dec_byte h]
      rw [if_pos (by omega), if_neg (by omega)]
      have e : 0 * 10 + (48 + u - 48) = u := by omega
      rw [e]
      by_cases hu : u ≤ M
      · rw [if_neg (by omega), if_pos hu]
      · rw [if_pos (by omega), if_neg hu]
    · rw [decDigits, dif_neg h, List.append_assoc, ih (u / 10) (by omega), List.singleton_append, parseUintM, dec_byte (Nat.mod_lt _ (by omega))]
      have hd : u / 10 * 10 + (48 + u % 10 - 48) = u := by omega
      rw [hd]
      by_cases h1 : u / 10 ≤ M
      · rw [if_pos h1, if_pos (by omega)]
        by_cases h2 : 1844674407370955162 ≤ u / 10
        · rw [if_pos h2, if_neg (by omega)]
        · rw [if_neg h2]
          by_cases hu : u ≤ M
          · rw [if_neg (by omega), if_pos hu]
          · rw [if_pos (by omega), if_neg hu]
      · rw [if_neg h1, if_neg (by omega)]
theorem pum_bar (M u : Nat) (r : List UInt8) : parseUintM M u (47 :: r) = parseUintB 8 [] := by
  rw [parseUintM, if_neg (by decide)]; rfl
theorem dec_first (u : Nat) : ∃ c t, decDigits u = c :: t ∧ 48 ≤ c.toNat ∧ c.toNat ≤ 57 := by
  induction u using Nat.strongRecOn with
  | _ u ih =>
    by_cases h : u < 10
    · exact ⟨_, [], decDigits_one h, by rw [dec_byte h]; omega, by rw [dec_byte h]; omega⟩
    · obtain ⟨c, t, e, h1, h2⟩ := ih (u / 10) (by omega)
      refine ⟨c, t ++ [UInt8.ofNat (48 + u % 10)], ?_, h1, h2⟩
      rw [decDigits, dif_neg h, e, List.cons_append]
theorem pub_dec {B : Nat} (hM : 2 ^ B - 1 ≤ 18446744073709551615) (u : Nat) (r : List UInt8) : parseUintB B (decDigits u ++ r) = if u ≤ 2 ^ B - 1 then parseUintM (2 ^ B - 1) u r else .range := by
  obtain ⟨c, t, e, -, -⟩ := dec_first u
  unfold parseUintB
  rw [if_neg (by rw [e]; simp), pu_dec _ hM]
theorem pi_text {B : Nat} (hM : 2 ^ B - 1 ≤ 18446744073709551615) (s : Bool) (u : Nat) (r : List UInt8) : parseIntB B ((if s then [45] else []) ++ decDigits u ++ r) =
    (if s then signedC (2 ^ (B - 1)) else signlessC (2 ^ (B - 1))) (if u ≤ 2 ^ B - 1 then parseUintM (2 ^ B - 1) u r else .range) := by
  cases s
  · obtain ⟨c, t, e, h1, h2⟩ := dec_first u
    have := parseIntB_plain B c (t ++ r) (by omega) (by omega)
    rw [← List.cons_append, ← e, pub_dec hM] at this
    exact this
  · have := parseIntB_minus B (decDigits u ++ r)
    rw [pub_dec hM] at this
    exact this
def intT (B : Nat) (l : List UInt8) : Option Int := match num l with
  | none => none
  | some q => if q.den = 1 ∧ -((2 ^ (B - 1) : Nat) : Int) ≤ q.num ∧ q.num < ((2 ^ (B - 1) : Nat) : Int) then some q.num else none
theorem num_wrote {l : List UInt8} {q : Rat} (h : num l = some q) : l = (if decide (q.num < 0) then [45] else []) ++ decDigits q.num.natAbs ++ (if q.den = 1 then [] else 47 :: decDigits q.den) := by
  have h1 := txt_num h
  rw [txt_eq] at h1
  split at h1
  · exact h1.symm
  · rw [← h1, num_nil] at h; cases h
theorem pi_num {B : Nat} {l : List UInt8} {q : Rat} (hM : 2 ^ B - 1 ≤ 18446744073709551615) (hB : 1 ≤ B) (h : num l = some q) : match intT B l with
    | some v => parseIntB B l = .ok v
    | none => parseIntB B l = parseIntB 64 [] ∨ parseIntB B l = .range := by
  have hp : 2 ^ B = 2 ^ (B - 1) * 2 := by rw [← Nat.pow_succ]; congr 1; omega
  have hp0 : 0 < 2 ^ (B - 1) := Nat.pow_pos (by omega)
  have hl := num_wrote h
  have ht := pi_text hM (decide (q.num < 0)) q.num.natAbs (if q.den = 1 then [] else 47 :: decDigits q.den)
  rw [← hl] at ht
  rw [ht]
  unfold intT
  rw [h]
  simp only []
  generalize 2 ^ B = C at *
  generalize 2 ^ (B - 1) = D at *
  by_cases hd : q.den = 1
  · simp only [hd, if_true, true_and]
    by_cases hs : q.num < 0
    · simp only [hs, decide_true, if_true]
      by_cases hr : q.num.natAbs ≤ C - 1
      · simp only [hr, if_true, parseUintM, signedC]
        by_cases hc : D < q.num.natAbs
        · rw [if_neg (by omega)]; simp [hc]
        · rw [if_pos (by omega)]; simp only [hc, if_false]
          congr 1; omega
      · rw [if_neg (by omega)]; simp [hr, signedC]
    · simp only [hs, decide_false, if_false, Bool.false_eq_true]
      by_cases hr : q.num.natAbs ≤ C - 1
      · simp only [hr, if_true, parseUintM, signlessC]
        by_cases hc : D ≤ q.num.natAbs
        · rw [if_neg (by omega)]; simp [hc]
        · rw [if_pos (by omega)]; simp only [hc, if_false]
          congr 1; omega
      · rw [if_neg (by omega)]; simp [hr, signlessC]
  · simp only [hd, if_false, false_and]
    by_cases hr : q.num.natAbs ≤ C - 1
    · simp only [hr, if_true, pum_bar]
      by_cases hs : q.num < 0 <;> simp [hs, signedC, signlessC] <;> exact Or.inl rfl
    · simp only [hr, if_false]
      by_cases hs : q.num < 0 <;> simp [hs, signedC, signlessC] <;> exact Or.inl rfl
end Go.Proofs.YtigidchicloleaaGreatDoor
