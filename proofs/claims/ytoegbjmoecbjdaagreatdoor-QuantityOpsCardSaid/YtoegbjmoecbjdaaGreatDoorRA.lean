/- Arithmetic for the document's natural numbers, to the base 10^9: a division digit by digit. -/
import Derived.Test.YtoegbjmoecbjdaaGreatDoorPart04
namespace Big
def B9 : Nat := 1000000000
theorem B9_eq : B9 = 1000000000 := rfl
theorem B9_pos : 0 < B9 := by rw [B9_eq]; omega
theorem val_shift (B j : Nat) (l : List Nat) : val B (List.replicate j 0 ++ l) = B ^ j * val B l := by
  rw [val_append, val_zeros]; simp
theorem Canon.shift {B : Nat} {l : List Nat} (h : Canon B l) (hl : l ≠ []) (hB : 0 < B) (j : Nat) : Canon B (List.replicate j 0 ++ l) := by
  refine ⟨(Dig.zeros hB j).append h.1, ?_⟩
  rw [List.getLast?_append]
  have h2 := h.2
  cases he : l.getLast? with
  | none => exact absurd (List.getLast?_eq_none_iff.1 he) hl
  | some x => rw [he] at h2; simpa using h2
theorem val_drop_D (B : Nat) (l : List Nat) (m : Nat) : val B (l.drop m) = l.getD m 0 + B * val B (l.drop (m + 1)) := by
  by_cases h : m < l.length
  · rw [List.drop_eq_getElem_cons h, val_cons, List.getD_eq_getElem?_getD, List.getElem?_eq_getElem h]; rfl
  · rw [List.drop_eq_nil_of_le (by omega), List.drop_eq_nil_of_le (by omega), List.getD_eq_getElem?_getD, List.getElem?_eq_none (by omega)]; simp [val]
theorem val_div_pow {B : Nat} (hB : 0 < B) {l : List Nat} (hd : Dig B l) (m : Nat) : val B l / B ^ m = val B (l.drop m) := by
  by_cases h : m ≤ l.length
  · have h1 := val_split B l m h
    have h2 := val_lt (l.take m) (hd.take m)
    rw [List.length_take, Nat.min_eq_left h] at h2
    rw [h1, Nat.add_mul_div_left _ _ (Nat.pow_pos hB), Nat.div_eq_of_lt h2, Nat.zero_add]
  · rw [List.drop_eq_nil_of_le (by omega)]
    have h2 := val_lt l hd
    have h3 : B ^ l.length ≤ B ^ m := Nat.pow_le_pow_right hB (by omega)
    rw [Nat.div_eq_of_lt (by omega)]; rfl
theorem top_two {B : Nat} (hB : 0 < B) {l : List Nat} (hd : Dig B l) (m : Nat) (hl : l.length ≤ m + 2) : val B l / B ^ m = l.getD (m + 1) 0 * B + l.getD m 0 := by
  rw [val_div_pow hB hd, val_drop_D, val_drop_D, List.drop_eq_nil_of_le (by omega)]
  simp [val]; rw [Nat.mul_comm, Nat.add_comm]
structure DivInv (B A V M j : Nat) (L : List Nat) (R : Nat) : Prop where
  len : L.length = M
  dig : Dig B L
  eq : A = val B (L.drop j) * V * B ^ j + R
  lt : R < V * B ^ j
theorem DivInv.start {B A V M : Nat} (hB : 0 < B) (h : A < V * B ^ M) : DivInv B A V M M (List.replicate M 0) A :=
  ⟨by simp, Dig.zeros hB M, by rw [List.drop_eq_nil_of_le (by simp)]; simp [val], h⟩
theorem digit_below {B V R j : Nat} (h : R < V * B ^ (j + 1)) (hp : 0 < V * B ^ j) : R / (V * B ^ j) < B := by
  rw [Nat.div_lt_iff_lt_mul hp]
  have : B * (V * B ^ j) = V * B ^ (j + 1) := by rw [Nat.pow_succ]; grind
  omega
theorem DivInv.step {B A V M j : Nat} {L : List Nat} {R : Nat} (hB : 0 < B) (hV : 0 < V) (h : DivInv B A V M (j + 1) L R) (hj : j < M) (q : Nat) (hq : q = R / (V * B ^ j)) :
    DivInv B A V M j (L.set j q) (R - q * (V * B ^ j)) := by
  have hp : 0 < V * B ^ j := Nat.mul_pos hV (Nat.pow_pos hB)
  have hqB : q < B := by rw [hq]; exact digit_below h.lt hp
  have hR : R = q * (V * B ^ j) + R % (V * B ^ j) := by rw [hq, Nat.mul_comm]; exact (Nat.div_add_mod R _).symm
  have hsub : R - q * (V * B ^ j) = R % (V * B ^ j) := by omega
  have hjl : j < L.length := by rw [h.len]; exact hj
  refine ⟨by rw [List.length_set]; exact h.len, h.dig.set j q hqB, ?_, ?_⟩
  · rw [val_drop_D, List.drop_set_of_lt (by omega)]
    have hg : (L.set j q).getD j 0 = q := by rw [List.getD_eq_getElem?_getD, List.getElem?_set_self hjl]; rfl
    rw [hg]
    refine quo_inv h.eq ?_
    rw [hsub]
    have : q * V * B ^ j = q * (V * B ^ j) := by rw [Nat.mul_assoc]
    omega
  · rw [hsub]; exact Nat.mod_lt _ hp
theorem DivInv.done {B A V M : Nat} {L : List Nat} {R : Nat} (h : DivInv B A V M 0 L R) : val B L = A / V ∧ R = A % V := by
  have h1 := h.eq
  have h2 := h.lt
  rw [Nat.pow_zero, Nat.mul_one] at h1 h2
  rw [List.drop_zero] at h1
  have hV : 0 < V := by omega
  constructor
  · rw [h1, Nat.mul_comm, Nat.mul_add_div hV, Nat.div_eq_of_lt h2]; rfl
  · rw [h1, Nat.mul_comm, Nat.mul_add_mod, Nat.mod_eq_of_lt h2]
theorem first_guess {B V R j k : Nat} {v r : List Nat} (hB : 0 < B) (cv : Canon B v) (hv : val B v = V) (hk : v.length = k + 1) (cr : Canon B r) (hr : val B r = R) (h : R < V * B ^ (j + 1)) :
    r.length ≤ j + k + 2 ∧ 0 < v.getD k 0 ∧ R / (V * B ^ j) ≤ min ((r.getD (j + k + 1) 0 * B + r.getD (j + k) 0) / v.getD k 0) (B - 1) := by
  have hlv := val_lt v cv.1
  rw [hk, hv] at hlv
  have hlen : r.length ≤ j + k + 2 := by
    apply Nat.le_of_not_lt; intro h1
    obtain ⟨m, hm⟩ : ∃ m, r.length = m + 1 := ⟨r.length - 1, by omega⟩
    have h2 := cr.pow_le m hm
    have h3 : B ^ (j + k + 2) ≤ B ^ m := Nat.pow_le_pow_right hB (by omega)
    have h4 : V * B ^ (j + 1) ≤ B ^ (k + 1) * B ^ (j + 1) := Nat.mul_le_mul_right _ (by omega)
    rw [← Nat.pow_add] at h4
    have h5 : k + 1 + (j + 1) = j + k + 2 := by omega
    rw [h5] at h4
    omega
  have hkl : k < v.length := by omega
  have hvt : v.getD k 0 ≠ 0 := by
    rw [List.getD_eq_getElem?_getD]
    intro e
    apply cv.2
    rw [List.getLast?_eq_getElem?, hk, Nat.add_sub_cancel, List.getElem?_eq_getElem hkl]
    rw [List.getElem?_eq_getElem hkl] at e
    simpa using e
  have hVge : v.getD k 0 * B ^ k ≤ V := by
    have h1 := val_take_succD B v k
    rw [List.take_of_length_le (by omega), hv] at h1
    rw [h1, Nat.mul_comm]; omega
  have hV : 0 < V := by
    have : 0 < v.getD k 0 * B ^ k := Nat.mul_pos (by omega) (Nat.pow_pos hB)
    omega
  have hp : 0 < V * B ^ j := Nat.mul_pos hV (Nat.pow_pos hB)
  refine ⟨hlen, by omega, ?_⟩
  rw [Nat.le_min]
  constructor
  · have ht := top_two hB cr.1 (j + k) (by omega)
    rw [hr] at ht
    rw [← ht]
    refine guess_ge (D := V * B ^ j) (R := R) (P := B ^ (j + k)) (low := R % B ^ (j + k)) (by omega) (Nat.div_mul_le_self _ _) ?_ ?_ (Nat.mod_lt _ (Nat.pow_pos hB))
    · have : v.getD k 0 * B ^ (j + k) = v.getD k 0 * B ^ k * B ^ j := by rw [Nat.mul_assoc, ← Nat.pow_add, Nat.add_comm k j]
      rw [this]; exact Nat.mul_le_mul_right _ hVge
    · rw [Nat.mul_comm]; exact (Nat.div_add_mod R _).symm
  · have := digit_below h hp; omega
theorem guess_low {D R g : Nat} (_hD : 0 < D) (_hq : R / D ≤ g) (h : R < D * g) : R / D ≤ g - 1 ∧ 0 < g := by
  have h1 : R / D < g := by rw [Nat.div_lt_iff_lt_mul _hD, Nat.mul_comm]; exact h
  exact ⟨Nat.le_sub_one_of_lt h1, Nat.lt_of_le_of_lt (Nat.zero_le _) h1⟩
theorem guess_right {D R g : Nat} (hD : 0 < D) (hq : R / D ≤ g) (h : ¬ R < D * g) : g = R / D := by
  have : g ≤ R / D := by rw [Nat.le_div_iff_mul_le hD, Nat.mul_comm]; omega
  omega
theorem scaled_end {a b s q R : Nat} (hs : 0 < s) (_hb : 0 < b) (hq : q = a * s / (b * s)) (hR : R = a * s % (b * s)) : q = a / b ∧ R / s = a % b := by
  subst hq hR
  constructor
  · exact Nat.mul_div_mul_right a b hs
  · rw [Nat.mul_mod_mul_right, Nat.mul_div_cancel _ hs]
theorem quo_places {B A V k : Nat} {v r : List Nat} (cv : Canon B v) (hv : val B v = V) (hk : v.length = k + 1) (cr : Canon B r) (hr : val B r = A) (h : V ≤ A) :
    k + 1 ≤ r.length ∧ A < V * B ^ (r.length - (k + 1) + 1) := by
  have h1 : v.length ≤ r.length := Canon.length_le cv cr.1 (by omega)
  refine ⟨by omega, ?_⟩
  have h2 := val_lt r cr.1
  have h3 := cv.pow_le k hk
  rw [hv] at h3
  have h4 : B ^ k * B ^ (r.length - (k + 1) + 1) ≤ V * B ^ (r.length - (k + 1) + 1) := Nat.mul_le_mul_right _ h3
  rw [← Nat.pow_add, show k + (r.length - (k + 1) + 1) = r.length from by omega] at h4
  omega
theorem B9_pow (k : Nat) : B9 ^ k = 10 ^ (9 * k) := by
  rw [B9_eq, show (1000000000 : Nat) = 10 ^ 9 from rfl, ← Nat.pow_mul]
theorem sum_step {B p c c' a b s z x y : Nat} (h : z + p * c = x + y) (hs : s + B * c' = c + a + b) : (z + p * s) + p * B * c' = (x + p * a) + (y + p * b) := by
  have : p * (s + B * c') = p * (c + a + b) := by rw [hs]
  grind
theorem less_step {B p c c' a b s z x y : Nat} (h : z + y = x + p * c) (hs : s + b + c = a + B * c') : (z + p * s) + (y + p * b) = (x + p * a) + p * B * c' := by
  have : p * (s + b + c) = p * (a + B * c') := by rw [hs]
  grind
end Big
