/- The document's natural numbers in memory: slices of digits to the base 10^9. -/
import Derived.Test.YtoegbjmoecbjdaaGreatDoorPart04
import Derived.Maps.AppendAt
import Derived.Test.YtoegbjmoecbjdaaGreatDoorRA
namespace Go.Proofs.YtoegbjmoecbjdaaGreatDoor
open Go.RowKit Big
def Nat9 (w : World) (v : Value) (x : Nat) : Prop := ∃ p n c l, v = .slice p n c ∧ (n ≤ c ∧ (p = none → c = 0)) ∧ Rd w p n l ∧ Canon B9 l ∧ val B9 l = x
theorem Nat9.below {w w' : World} {v : Value} {x : Nat} (h : Nat9 w v x) (hb : Below w.heap.size w w') : Nat9 w' v x := by
  obtain ⟨p, n, c, l, h1, h2, h3, h4⟩ := h
  exact ⟨p, n, c, l, h1, h2, h3.below hb, h4⟩
theorem Nat9.zero (w : World) : Nat9 w (.slice none 0 0) 0 := ⟨none, 0, 0, [], rfl, ⟨Nat.le_refl _, fun _ => rfl⟩, Rd.nil _ _, Canon.nil _, rfl⟩
theorem Nat9.slice {w : World} {v : Value} {x : Nat} (h : Nat9 w v x) : ∃ p n c, v = .slice p n c := by
  obtain ⟨p, n, c, _, h1, _⟩ := h
  exact ⟨p, n, c, h1⟩
theorem limbs9 {l : List Nat} {x K : Nat} (h : Canon B9 l) (hx : val B9 l = x) (hK : x < B9 ^ K) : l.length ≤ K := by
  apply Nat.le_of_not_lt; intro h1
  obtain ⟨k, hk⟩ : ∃ k, l.length = k + 1 := ⟨l.length - 1, by omega⟩
  have h2 := h.pow_le k hk
  have h3 : B9 ^ K ≤ B9 ^ k := Nat.pow_le_pow_right B9_pos (by omega)
  omega
theorem pow9 {x K : Nat} {l : List Nat} {n : Nat} {p : Option Addr} {w : World} (hc : Canon B9 l) (hv : val B9 l = x) (hx : x < B9 ^ K) (hl : Rd w p n l) : n ≤ K := by
  have := limbs9 hc hv hx; rw [hl.len] at this; exact this
theorem Nat9.zero_iff {w : World} {p : Option Addr} {n c x : Nat} (h : Nat9 w (.slice p n c) x) : n = 0 ↔ x = 0 := by
  obtain ⟨p', n', c', l, h1, h2, h3, h4, h5⟩ := h
  cases h1
  have := Canon.zero_iff B9_pos h4
  rw [h5] at this
  rw [this, ← h3.len, List.length_eq_zero_iff]
def Fresh (B : Nat) (v : Value) : Prop := ∀ b o n c, v = .slice (some ⟨b, o, none⟩) n c → B ≤ b
def Post9 (x : Nat) (w : World) (e : Ending) (w' : World) : Prop := ∃ v, e = .returned v ∧ Nat9 w' v x ∧ Below w.heap.size w w' ∧ Fresh w.heap.size v
theorem drop_zeros9 (L : List Nat) (k : Nat) (h : ∀ j, k ≤ j → j < L.length → L.getD j 0 = 0) : val B9 (L.drop k) = 0 := by
  have : L.drop k = List.replicate (L.length - k) 0 := by
    apply List.ext_getElem
    · simp
    · intro i h1 h2
      have := h (k + i) (by omega) (by simp at h1; omega)
      rw [List.getD_eq_getElem?_getD, List.getElem?_eq_getElem (by simp at h1; omega)] at this
      simpa using this
  rw [this, val_zeros]
theorem trim_post9 {p : Option Addr} {n c : Nat} {l : List Nat} {w0 w w' : World} {e : Ending} (hnc : n ≤ c ∧ (p = none → c = 0)) (hf : ∀ b o, p = some ⟨b, o, none⟩ → w0.heap.size ≤ b) (hl : Rd w p n l) (hd : Dig B9 l) (hb : Below w0.heap.size w0 w) (h : Trim p n c l w e w') : Post9 (val B9 l) w0 e w' := by
  obtain ⟨k, hk, rfl, rfl, hz, h0⟩ := h
  refine ⟨_, rfl, ⟨p, k, c, l.take k, rfl, ⟨by omega, hnc.2⟩, hl.take k hk, ⟨hd.take k, ?_⟩, ?_⟩, hb, fun b o n' c' h => by cases h; exact hf b o rfl⟩
  · rcases h0 with rfl | h0
    · simp
    · obtain ⟨j, rfl⟩ : ∃ j, k = j + 1 := ⟨k - 1, by
        have : k ≠ 0 := by
          rintro rfl
          by_cases h1 : 0 < n
          · exact h0 (hz 0 (by omega) h1)
          · apply h0; rw [List.getD_eq_getElem?_getD, List.getElem?_eq_none (by rw [hl.len]; omega)]; rfl
        omega⟩
      rw [List.getLast?_eq_getElem?, List.length_take, Nat.min_eq_left (by rw [hl.len]; exact hk), Nat.add_sub_cancel, List.getElem?_take_of_lt (by omega)]
      rw [Nat.add_sub_cancel, List.getD_eq_getElem?_getD] at h0
      intro e1; rw [e1] at h0; exact h0 rfl
  · rw [val_split B9 l k (by rw [hl.len]; exact hk), drop_zeros9 l k (fun j h1 h2 => hz j h1 (by rw [hl.len] at h2; exact h2))]
    omega
theorem own_rd {w : World} {base n : Nat} {v : Value} {L : List Nat} (h : w.ownsRow base 76 1 v n (u64s L)) : ∃ p c, v = .slice p n c ∧ (n ≤ c ∧ (p = none → c = 0)) ∧ Rd w p n L ∧ ∀ b o, p = some ⟨b, o, none⟩ → base ≤ b := by
  obtain ⟨h1, h2⟩ := h
  rw [u64s_length, Nat.mul_one] at h1
  rcases h2 with ⟨rfl, rfl⟩ | ⟨g, cap, cur, rfl, hg, hh, hn, hm, hs, hc⟩
  · exact ⟨none, 0, rfl, ⟨Nat.le_refl _, fun _ => rfl⟩, by rw [List.eq_nil_of_length_eq_zero h1]; exact Rd.nil _ _, fun b o h => by cases h⟩
  · refine ⟨_, cap, rfl, ⟨hn, fun h => by cases h⟩, ⟨h1, ?_⟩, fun b o h => by cases h; exact hg⟩
    by_cases h0 : n = 0
    · exact .inl h0
    · refine .inr ⟨g, 0, rfl, (Array.getElem?_eq_some_iff.1 hh).1, fun j hj => ?_⟩
      rw [Nat.mul_one] at hc
      have hjl : j < L.length := by omega
      have e : cur[j]? = (u64s L)[j]? := by
        rw [← hc, List.getElem?_take_of_lt hj, Array.getElem?_toList]
      rw [Nat.zero_add]
      simp only [World.cell?, hh]
      simp [e, u64s, List.getD_eq_getElem?_getD, hjl]
structure Acc (w wr : World) (v : Value) (L : List Nat) : Prop where
  own : wr.ownsRow w.heap.size 76 1 v L.length (u64s L)
  below : Below w.heap.size w wr
theorem Acc.nil (w wr : World) (h : Below w.heap.size w wr) : Acc w wr (.slice none 0 0) [] := ⟨World.ownsRow_nil _ _ _ _, h⟩
theorem Acc.next {w wr w5 : World} {v v5 : Value} {L : List Nat} {m x : Nat} {o : Obj} (h : Acc w wr v L) (hm : m = L.length + 1) (hown : w5.ownsRow w.heap.size 76 1 v5 m (u64s L ++ [.int .u64 (x : Int)])) (hg : (wr.alloc o).grownBy w5 v.ownBlock) : Acc w w5 v5 (L ++ [x]) := by
  subst hm
  refine ⟨?_, ?_⟩
  · have e : u64s (L ++ [x]) = u64s L ++ [.int .u64 (x : Int)] := by simp [u64s]
    rw [e, List.length_append]; exact hown
  · exact (h.below.alloc h.below.size o).grown hg (by simp; have := h.below.size; omega) (fun k hk => (h.own.lt k hk).1)
theorem Acc.drewN {w wr : World} {v : Value} {L : List Nat} (h : Acc w wr v L) (k : Nat) : Acc w (wr.drewN k) v L := ⟨h.own, h.below.trans (below_drewN _ _ _)⟩
theorem Acc.nat {w wr : World} {v : Value} {L : List Nat} (h : Acc w wr v L) (hc : Canon B9 L) : Post9 (val B9 L) w (.returned v) wr := by
  obtain ⟨p, c, rfl, hn, hr, hf⟩ := own_rd h.own
  exact ⟨_, rfl, ⟨p, _, c, L, rfl, hn, hr, hc, rfl⟩, h.below, fun b o n c' h => by cases h; exact hf b o rfl⟩
end Go.Proofs.YtoegbjmoecbjdaaGreatDoor
