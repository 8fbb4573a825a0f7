/- The order of shuffled bytes, as plain lists. -/
import Derived.Test.YtpbcdmefngbjjaaGreatDoorCC
namespace Go.Proofs.YtpbcdmefngbjjaaGreatDoor
/-- Column j of k groups of n bytes, its first m bytes. -/
def colU (l : List UInt8) (n j : Nat) : Nat → List UInt8
  | 0 => []
  | m + 1 => colU l n j m ++ [l.getD (m * n + j) 0]
/-- The first m columns. -/
def colsU (l : List UInt8) (n k : Nat) : Nat → List UInt8
  | 0 => []
  | m + 1 => colsU l n k m ++ colU l n m k
/-- What Shuffle makes of l. -/
def shufL (l : List UInt8) (n : Nat) : List UInt8 := colsU l n (l.length / n) n ++ l.drop (l.length / n * n)
/-- What Unshuffle makes of l: the columns of the other shape. -/
def unshL (l : List UInt8) (n : Nat) : List UInt8 := colsU l (l.length / n) n (l.length / n) ++ l.drop (l.length / n * n)
theorem colU_length (l : List UInt8) (n j : Nat) : ∀ m, (colU l n j m).length = m
  | 0 => rfl
  | m + 1 => by rw [colU, List.length_append, colU_length l n j m]; rfl
theorem colsU_length (l : List UInt8) (n k : Nat) : ∀ m, (colsU l n k m).length = m * k
  | 0 => by simp [colsU]
  | m + 1 => by rw [colsU, List.length_append, colsU_length l n k m, colU_length, Nat.succ_mul]
theorem colU_get (l : List UInt8) (n j : Nat) : ∀ m i, i < m → (colU l n j m).getD i 0 = l.getD (i * n + j) 0
  | m + 1, i, h => by
    rw [colU, List.getD_eq_getElem?_getD]
    by_cases hi : i < m
    · rw [List.getElem?_append_left (by rw [colU_length]; exact hi), ← List.getD_eq_getElem?_getD, colU_get l n j m i hi]
    · obtain rfl : i = m := by omega
      rw [List.getElem?_append_right (by rw [colU_length]; omega), colU_length]; simp
theorem colsU_get (l : List UInt8) (n k : Nat) : ∀ m j i, j < m → i < k → (colsU l n k m).getD (j * k + i) 0 = l.getD (i * n + j) 0
  | m + 1, j, i, hj, hi => by
    rw [colsU, List.getD_eq_getElem?_getD]
    by_cases h : j < m
    · have hlt : j * k + i < m * k := by
        have h1 : (j + 1) * k ≤ m * k := Nat.mul_le_mul_right _ h
        rw [Nat.succ_mul] at h1; omega
      rw [List.getElem?_append_left (by rw [colsU_length]; exact hlt), ← List.getD_eq_getElem?_getD, colsU_get l n k m j i h hi]
    · obtain rfl : j = m := by omega
      rw [List.getElem?_append_right (by rw [colsU_length]; omega), colsU_length, show j * k + i - j * k = i by omega, ← List.getD_eq_getElem?_getD, colU_get l n j k i hi]
theorem shufL_length (l : List UInt8) {n : Nat} : (shufL l n).length = l.length := by
  unfold shufL
  rw [List.length_append, colsU_length, List.length_drop, Nat.mul_comm n]
  have := Nat.div_mul_le_self l.length n
  omega
theorem unshL_length (l : List UInt8) {n : Nat} : (unshL l n).length = l.length := by
  unfold unshL
  rw [List.length_append, colsU_length, List.length_drop]
  have := Nat.div_mul_le_self l.length n
  omega
theorem cell_lt {n k i j : Nat} (hi : i < k) (hj : j < n) : i * n + j < k * n := by
  have h1 : (i + 1) * n ≤ k * n := Nat.mul_le_mul_right _ hi
  rw [Nat.succ_mul] at h1; omega
theorem shufL_get (l : List UInt8) {n i j : Nat} (hi : i < l.length / n) (hj : j < n) : (shufL l n).getD (j * (l.length / n) + i) 0 = l.getD (i * n + j) 0 := by
  unfold shufL
  rw [List.getD_eq_getElem?_getD, List.getElem?_append_left (by rw [colsU_length]; exact cell_lt hj hi), ← List.getD_eq_getElem?_getD]
  exact colsU_get l n _ n j i hj hi
theorem unshL_get (l : List UInt8) {n i j : Nat} (hi : i < l.length / n) (hj : j < n) : (unshL l n).getD (i * n + j) 0 = l.getD (j * (l.length / n) + i) 0 := by
  unfold unshL
  rw [List.getD_eq_getElem?_getD, List.getElem?_append_left (by rw [colsU_length]; exact cell_lt hi hj), ← List.getD_eq_getElem?_getD]
  exact colsU_get l _ n _ i j hi hj
theorem shufL_rest (l : List UInt8) {n t : Nat} (h : l.length / n * n ≤ t) : (shufL l n).getD t 0 = l.getD t 0 := by
  unfold shufL
  rw [List.getD_eq_getElem?_getD, List.getElem?_append_right (by rw [colsU_length, Nat.mul_comm n]; exact h), colsU_length, List.getElem?_drop, Nat.mul_comm n, show l.length / n * n + (t - l.length / n * n) = t by omega, ← List.getD_eq_getElem?_getD]
theorem unshL_rest (l : List UInt8) {n t : Nat} (h : l.length / n * n ≤ t) : (unshL l n).getD t 0 = l.getD t 0 := by
  unfold unshL
  rw [List.getD_eq_getElem?_getD, List.getElem?_append_right (by rw [colsU_length]; exact h), colsU_length, List.getElem?_drop, show l.length / n * n + (t - l.length / n * n) = t by omega, ← List.getD_eq_getElem?_getD]
theorem ext_getD {a b : List UInt8} (h : a.length = b.length) (hg : ∀ t, t < a.length → a.getD t 0 = b.getD t 0) : a = b := by
  refine List.ext_getElem h fun t h1 h2 => ?_
  have := hg t h1
  simpa [List.getD_eq_getElem?_getD, h1, h2] using this
theorem split_cell {n k t : Nat} (h : t < k * n) (hn : 0 < n) : ∃ i j, i < k ∧ j < n ∧ t = i * n + j :=
  ⟨t / n, t % n, (Nat.div_lt_iff_lt_mul hn).2 h, Nat.mod_lt _ hn, by rw [Nat.mul_comm]; exact (Nat.div_add_mod t n).symm⟩
theorem unsh_shuf (l : List UInt8) {n : Nat} (hn : 0 < n) : unshL (shufL l n) n = l := by
  refine ext_getD (by rw [unshL_length, shufL_length]) fun t ht => ?_
  rw [unshL_length, shufL_length] at ht
  by_cases h : t < l.length / n * n
  · obtain ⟨i, j, hi, hj, rfl⟩ := split_cell h hn
    have h1 := unshL_get (shufL l n) (n := n) (i := i) (j := j) (by rw [shufL_length]; exact hi) hj
    rw [shufL_length] at h1
    rw [h1, shufL_get l hi hj]
  · rw [unshL_rest _ (by rw [shufL_length]; omega), shufL_rest _ (by omega)]
theorem shuf_unsh (l : List UInt8) {n : Nat} (hn : 0 < n) : shufL (unshL l n) n = l := by
  have _ := hn
  refine ext_getD (by rw [shufL_length, unshL_length]) fun t ht => ?_
  rw [shufL_length, unshL_length] at ht
  by_cases h : t < l.length / n * n
  · have hk : 0 < l.length / n := Nat.pos_of_ne_zero fun h0 => by rw [h0] at h; omega
    obtain ⟨j, i, hj, hi, rfl⟩ := split_cell (k := n) (n := l.length / n) (by rw [Nat.mul_comm]; exact h) hk
    have h1 := shufL_get (unshL l n) (n := n) (i := i) (j := j) (by rw [unshL_length]; exact hi) hj
    rw [unshL_length] at h1
    rw [h1, unshL_get l hi hj]
  · rw [shufL_rest _ (by rw [unshL_length]; omega), unshL_rest _ (by omega)]
end Go.Proofs.YtpbcdmefngbjjaaGreatDoor
