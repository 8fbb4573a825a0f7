/- The places of shuffled bytes. -/
import Derived.Test.YtpbcdmefngbjjaaGreatDoorMF
namespace Go.Proofs.YtpbcdmefngbjjaaGreatDoor
/-- Where the byte at place t behind Shuffle was in front of it. -/
def srcP (len n t : Nat) : Nat := if t < len / n * n then t % (len / n) * n + t / (len / n) else t
theorem srcP_lt {len n t : Nat} (_hn : 0 < n) (h : t < len) : srcP len n t < len := by
  unfold srcP
  split
  · rename_i h1
    have hk : 0 < len / n := Nat.pos_of_ne_zero fun h0 => by rw [h0] at h1; omega
    have h2 : t / (len / n) < n := (Nat.div_lt_iff_lt_mul hk).2 (by rw [Nat.mul_comm]; exact h1)
    exact Nat.lt_of_lt_of_le (cell_lt (Nat.mod_lt _ hk) h2) (Nat.div_mul_le_self _ _)
  · exact h
theorem srcP_cell {len n i j : Nat} (hi : i < len / n) (hj : j < n) : srcP len n (j * (len / n) + i) = i * n + j := by
  have hk : 0 < len / n := by omega
  unfold srcP
  rw [if_pos (by rw [Nat.mul_comm (len / n)]; exact cell_lt hj hi), Nat.mul_comm j, Nat.mul_add_mod, Nat.mod_eq_of_lt hi, Nat.mul_add_div hk, Nat.div_eq_of_lt hi, Nat.add_zero]
theorem srcP_rest {len n t : Nat} (h : len / n * n ≤ t) : srcP len n t = t := by unfold srcP; rw [if_neg (by omega)]
theorem shufL_src (l : List UInt8) {n t : Nat} (hn : 0 < n) (ht : t < l.length) : (shufL l n).getD t 0 = l.getD (srcP l.length n t) 0 := by
  by_cases h : t < l.length / n * n
  · have hk : 0 < l.length / n := Nat.pos_of_ne_zero fun h0 => by rw [h0] at h; omega
    have _ := ht
    have _ := hn
    obtain ⟨j, i, hj, hi, rfl⟩ := split_cell (k := n) (n := l.length / n) (by rw [Nat.mul_comm]; exact h) hk
    rw [shufL_get l hi hj, srcP_cell hi hj]
  · rw [shufL_rest _ (by omega), srcP_rest (by omega)]
theorem srcP_inj {len n s t : Nat} (hn : 0 < n) (hs : s < len) (ht : t < len) (h : srcP len n s = srcP len n t) : s = t := by
  -- a list whose bytes tell their places apart is not at hand: by arithmetic
  by_cases h1 : s < len / n * n <;> by_cases h2 : t < len / n * n
  · have hk : 0 < len / n := Nat.pos_of_ne_zero fun h0 => by rw [h0] at h1; omega
    obtain ⟨j, i, hj, hi, rfl⟩ := split_cell (k := n) (n := len / n) (by rw [Nat.mul_comm]; exact h1) hk
    obtain ⟨j', i', hj', hi', rfl⟩ := split_cell (k := n) (n := len / n) (by rw [Nat.mul_comm]; exact h2) hk
    rw [srcP_cell hi hj, srcP_cell hi' hj'] at h
    have e1 := congrArg (· % n) h
    have e2 := congrArg (· / n) h
    simp only [Nat.mul_comm _ n, Nat.mul_add_mod, Nat.mod_eq_of_lt hj, Nat.mod_eq_of_lt hj', Nat.mul_add_div hn, Nat.div_eq_of_lt hj, Nat.div_eq_of_lt hj', Nat.add_zero] at e1 e2
    rw [e1, e2]
  · have h3 : srcP len n s < len / n * n := by
      have hk : 0 < len / n := Nat.pos_of_ne_zero fun h0 => by rw [h0] at h1; omega
      obtain ⟨j, i, hj, hi, rfl⟩ := split_cell (k := n) (n := len / n) (by rw [Nat.mul_comm]; exact h1) hk
      rw [srcP_cell hi hj]; exact cell_lt hi hj
    rw [h, srcP_rest (by omega)] at h3; omega
  · have h3 : srcP len n t < len / n * n := by
      have hk : 0 < len / n := Nat.pos_of_ne_zero fun h0 => by rw [h0] at h2; omega
      obtain ⟨j, i, hj, hi, rfl⟩ := split_cell (k := n) (n := len / n) (by rw [Nat.mul_comm]; exact h2) hk
      rw [srcP_cell hi hj]; exact cell_lt hi hj
    rw [← h, srcP_rest (by omega)] at h3; omega
  · rw [srcP_rest (by omega), srcP_rest (by omega)] at h; exact h
/-- A row that is filled place by place: the byte from place g t of l comes to place f t. -/
def fillP (l : List UInt8) (f g : Nat → Nat) (ts : List Nat) : List UInt8 := ts.foldl (fun X t => X.set (f t) (l.getD (g t) 0)) (List.replicate l.length 0)
theorem fillP_snoc (l : List UInt8) (f g : Nat → Nat) (ts : List Nat) (t : Nat) : fillP l f g (ts ++ [t]) = (fillP l f g ts).set (f t) (l.getD (g t) 0) := by
  unfold fillP; rw [List.foldl_append]; rfl
theorem fill_len (l : List UInt8) (f g : Nat → Nat) (ts : List Nat) : ∀ X : List UInt8, (ts.foldl (fun X t => X.set (f t) (l.getD (g t) 0)) X).length = X.length := by
  induction ts with
  | nil => intro X; rfl
  | cons t ts ih => intro X; rw [List.foldl_cons, ih, List.length_set]
theorem fillP_length (l : List UInt8) (f g : Nat → Nat) (ts : List Nat) : (fillP l f g ts).length = l.length := by
  unfold fillP; rw [fill_len, List.length_replicate]
theorem fillP_get (l : List UInt8) (f g : Nat → Nat) (hf : ∀ s t, s < l.length → t < l.length → f s = f t → s = t) (hb : ∀ t, t < l.length → f t < l.length) : ∀ m, m ≤ l.length → ∀ t, t < m → (fillP l f g (List.range m)).getD (f t) 0 = l.getD (g t) 0
  | m + 1, hm, t, ht => by
    rw [List.range_succ, fillP_snoc, List.getD_eq_getElem?_getD, List.getElem?_set]
    by_cases h : f m = f t
    · have e : m = t := hf m t (by omega) (by omega) h
      rw [if_pos h, if_pos (by rw [fillP_length]; exact hb m (by omega)), e]; rfl
    · rw [if_neg h, ← List.getD_eq_getElem?_getD]
      exact fillP_get l f g hf hb m (by omega) t (by
        rcases Nat.lt_or_ge t m with h1 | h1
        · exact h1
        · exact absurd (by rw [show t = m by omega]) h)
theorem fill_shuf (l : List UInt8) {n : Nat} (hn : 0 < n) : fillP l (fun t => t) (fun t => srcP l.length n t) (List.range l.length) = shufL l n := by
  refine ext_getD (by rw [fillP_length, shufL_length]) fun t ht => ?_
  rw [fillP_length] at ht
  have := fillP_get l (fun t => t) (fun t => srcP l.length n t) (fun s t _ _ h => h) (fun t h => h) l.length (Nat.le_refl _) t ht
  rw [this, shufL_src l hn ht]
theorem fill_unsh (l : List UInt8) {n : Nat} (hn : 0 < n) : fillP l (fun t => srcP l.length n t) (fun t => t) (List.range l.length) = unshL l n := by
  obtain ⟨r, hr⟩ : ∃ r, r = fillP l (fun t => srcP l.length n t) (fun t => t) (List.range l.length) := ⟨_, rfl⟩
  have hl : r.length = l.length := by rw [hr, fillP_length]
  have h : shufL r n = l := by
    refine ext_getD (by rw [shufL_length, hl]) fun t ht => ?_
    rw [shufL_length] at ht
    rw [shufL_src r hn ht, hl, hr]
    exact fillP_get l (fun t => srcP l.length n t) (fun t => t) (fun s t hs ht h => srcP_inj hn hs ht h) (fun t h => srcP_lt hn h) l.length (Nat.le_refl _) t (by omega)
  rw [← hr, ← h, unsh_shuf r hn]
end Go.Proofs.YtpbcdmefngbjjaaGreatDoor
