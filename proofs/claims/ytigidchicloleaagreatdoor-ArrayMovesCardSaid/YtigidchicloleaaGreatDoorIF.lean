/- Orders of dimensions: the inverse order. -/
import Derived.Test.YtigidchicloleaaGreatDoorIE
namespace Go.Proofs.YtigidchicloleaaGreatDoor.Arr
open Go.RowKit Go.Shelf
open Go.Lib
theorem nd_len : ∀ (n : Nat) (l : List Nat), l.Nodup → (∀ x ∈ l, x < n) → l.length ≤ n
  | 0, [], _, _ => Nat.le_refl _
  | 0, x :: l, _, h => absurd (h x (by simp)) (by omega)
  | n + 1, l, hnd, h => by
    by_cases hm : n ∈ l
    · have h1 := nd_len n (l.erase n) (hnd.erase n) (fun x hx => by
        have h2 := (List.Nodup.mem_erase_iff hnd).1 hx
        have h3 := h x h2.2
        have h4 := h2.1
        omega)
      rw [List.length_erase_of_mem hm] at h1
      omega
    · have h1 := nd_len n l hnd (fun x hx => by
        have h3 := h x hx
        have h4 : x ≠ n := fun e => hm (e ▸ hx)
        omega)
      omega
theorem nd_all {n : Nat} {l : List Nat} (hnd : l.Nodup) (h : ∀ x ∈ l, x < n) (hl : l.length = n) {j : Nat} (hj : j < n) : j ∈ l := by
  by_cases hm : j ∈ l
  · exact hm
  · have h1 := nd_len n (j :: l) (List.nodup_cons.2 ⟨hm, hnd⟩) (fun x hx => by
      rcases List.mem_cons.1 hx with e | e
      · rw [e]; exact hj
      · exact h x e)
    rw [List.length_cons, hl] at h1
    omega
theorem idx_at {l : List Nat} (hnd : l.Nodup) {i : Nat} (hi : i < l.length) : l.idxOf (l.getD i 0) = i := by
  have h1 : l.idxOf (l.getD i 0) < l.length := List.idxOf_lt_length_of_mem (by rw [List.getD_eq_getElem?_getD, List.getElem?_eq_getElem hi]; exact List.getElem_mem _)
  have h2 : l[l.idxOf (l.getD i 0)] = l.getD i 0 := List.getElem_idxOf h1
  have h3 : l.getD i 0 = l[i] := by rw [List.getD_eq_getElem?_getD, List.getElem?_eq_getElem hi]; rfl
  rw [List.nodup_iff_pairwise_ne, List.pairwise_iff_getElem] at hnd
  rcases Nat.lt_trichotomy (l.idxOf (l.getD i 0)) i with h | h | h
  · exact absurd (h2.trans h3) (hnd _ _ h1 hi h)
  · exact h
  · exact absurd (h2.trans h3).symm (hnd _ _ hi h1 h)
def bk (ax : List Nat) (i : Nat) : List Nat := (List.range ax.length).map (fun j => if ax.idxOf j < i then ax.idxOf j else 0)
def inv (ax : List Nat) : List Nat := bk ax ax.length
theorem bk_len (ax : List Nat) (i : Nat) : (bk ax i).length = ax.length := by simp [bk]
theorem bk_at {ax : List Nat} {i j : Nat} (hj : j < ax.length) : (bk ax i).getD j 0 = if ax.idxOf j < i then ax.idxOf j else 0 := by
  unfold bk
  rw [List.getD_eq_getElem?_getD, List.getElem?_map, List.getElem?_range hj]; rfl
theorem bk_zero (ax : List Nat) : bk ax 0 = zn ax.length := by
  refine ext_getD (by rw [bk_len]; simp [zn]) (fun k hk => ?_)
  rw [bk_len] at hk
  rw [bk_at hk, if_neg (by omega)]
  unfold zn
  rw [List.getD_eq_getElem?_getD, List.getElem?_replicate_of_lt hk]; rfl
theorem bk_succ {ax : List Nat} (hnd : ax.Nodup) (hb : ∀ x ∈ ax, x < ax.length) {i : Nat} (hi : i < ax.length) : (bk ax i).set (ax.getD i 0) i = bk ax (i + 1) := by
  have hm : ax.getD i 0 ∈ ax := by rw [List.getD_eq_getElem?_getD, List.getElem?_eq_getElem hi]; exact List.getElem_mem _
  refine ext_getD (by rw [List.length_set, bk_len, bk_len]) (fun k hk => ?_)
  rw [List.length_set, bk_len] at hk
  by_cases e : ax.getD i 0 = k
  · rw [bk_at hk, ← e, idx_at hnd hi, if_pos (by omega), List.getD_eq_getElem?_getD, List.getElem?_set_self (by rw [bk_len]; exact hb _ hm)]; rfl
  · have h1 : (((bk ax i).set (ax.getD i 0) i).getD k 0) = (bk ax i).getD k 0 := by
      rw [List.getD_eq_getElem?_getD, List.getElem?_set_ne e, ← List.getD_eq_getElem?_getD]
    rw [h1, bk_at hk, bk_at hk]
    have h2 : ax.idxOf k ≠ i := fun e2 => by
      have h3 : ax.idxOf k < ax.length := by omega
      have h4 : ax[ax.idxOf k] = k := List.getElem_idxOf h3
      refine e ?_
      rw [List.getD_eq_getElem?_getD, List.getElem?_eq_getElem hi, Option.getD_some]
      have h5 : ax[i] = ax[ax.idxOf k] := by congr 1; exact e2.symm
      rw [h5, h4]
    by_cases h3 : ax.idxOf k < i
    · rw [if_pos h3, if_pos (by omega)]
    · rw [if_neg h3, if_neg (by omega)]
theorem inv_at {ax : List Nat} (hnd : ax.Nodup) (hb : ∀ x ∈ ax, x < ax.length) {j : Nat} (hj : j < ax.length) : (inv ax).getD j 0 < ax.length ∧ ax.getD ((inv ax).getD j 0) 0 = j := by
  have hm := nd_all hnd hb rfl hj
  have h1 : ax.idxOf j < ax.length := List.idxOf_lt_length_of_mem hm
  unfold inv
  rw [bk_at hj, if_pos h1]
  refine ⟨h1, ?_⟩
  rw [List.getD_eq_getElem?_getD, List.getElem?_eq_getElem h1, Option.getD_some]
  exact List.getElem_idxOf h1
theorem inv_of {ax : List Nat} (hnd : ax.Nodup) (hb : ∀ x ∈ ax, x < ax.length) {i : Nat} (hi : i < ax.length) : (inv ax).getD (ax.getD i 0) 0 = i := by
  have hm : ax.getD i 0 ∈ ax := by rw [List.getD_eq_getElem?_getD, List.getElem?_eq_getElem hi]; exact List.getElem_mem _
  unfold inv
  rw [bk_at (hb _ hm), idx_at hnd hi, if_pos hi]
theorem inv_len (ax : List Nat) : (inv ax).length = ax.length := bk_len _ _
theorem mem_getD {l : List Nat} {x : Nat} (h : x ∈ l) : ∃ k, k < l.length ∧ l.getD k 0 = x := by
  obtain ⟨k, hk, e⟩ := List.getElem_of_mem h
  exact ⟨k, hk, by rw [List.getD_eq_getElem?_getD, List.getElem?_eq_getElem hk]; exact e⟩
theorem inv_lt {ax : List Nat} (hnd : ax.Nodup) (hb : ∀ x ∈ ax, x < ax.length) : ∀ x ∈ inv ax, x < ax.length := fun x hx => by
  obtain ⟨k, hk, rfl⟩ := mem_getD hx
  rw [inv_len] at hk
  exact (inv_at hnd hb hk).1
theorem inv_nodup {ax : List Nat} (hnd : ax.Nodup) (hb : ∀ x ∈ ax, x < ax.length) : (inv ax).Nodup := by
  rw [List.nodup_iff_pairwise_ne, List.pairwise_iff_getElem]
  intro i j hi hj hij e
  have h1 := (inv_at hnd hb (j := i) (by rw [← inv_len ax]; exact hi)).2
  have h2 := (inv_at hnd hb (j := j) (by rw [← inv_len ax]; exact hj)).2
  rw [List.getD_eq_getElem?_getD (l := inv ax), List.getElem?_eq_getElem hi, Option.getD_some] at h1
  rw [List.getD_eq_getElem?_getD (l := inv ax), List.getElem?_eq_getElem hj, Option.getD_some, ← e, h1] at h2
  omega
theorem pk_inv {ax s : List Nat} (hnd : ax.Nodup) (hb : ∀ x ∈ ax, x < ax.length) (hs : s.length = ax.length) : pk (pk s ax) (inv ax) = s := by
  refine ext_getD (by rw [pk_len, inv_len, hs]) (fun k hk => ?_)
  rw [pk_len, inv_len] at hk
  obtain ⟨h1, h2⟩ := inv_at hnd hb hk
  rw [pk_at (by rw [inv_len]; exact hk), pk_at h1, h2]
theorem inv_inv {ax : List Nat} (hnd : ax.Nodup) (hb : ∀ x ∈ ax, x < ax.length) : inv (inv ax) = ax := by
  have hnd2 := inv_nodup hnd hb
  have hb2 : ∀ x ∈ inv ax, x < (inv ax).length := by rw [inv_len]; exact inv_lt hnd hb
  refine ext_getD (by rw [inv_len, inv_len]) (fun k hk => ?_)
  rw [inv_len, inv_len] at hk
  have h1 : ax.getD k 0 < (inv ax).length := by rw [inv_len]; exact hb _ (by rw [List.getD_eq_getElem?_getD, List.getElem?_eq_getElem hk]; exact List.getElem_mem _)
  have h2 := inv_of hnd2 hb2 h1
  rwa [inv_of hnd hb hk] at h2
end Go.Proofs.YtigidchicloleaaGreatDoor.Arr
