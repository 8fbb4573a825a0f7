/- Plain arithmetic of numbers written as lists of digits to a base, the least significant one first. Slices of uint64 in memory, read as lists of digits. -/
import Derived.Test.YtaldangjhdddoaaGreatDoorTE
import Derived.WalkKit
import Derived.WalkSpells
import Derived.WalkLawsBesides
import Derived.Lib.Hide
import Derived.Laws.Externs
import Derived.Shelf.Spec.BitsCarry
import Derived.Laws.CopyOwn
import Derived.Maps.AppendAt
set_option maxRecDepth 100000
set_option maxHeartbeats 800000
namespace Go.Proofs.YtaldangjhdddoaaGreatDoor
end Go.Proofs.YtaldangjhdddoaaGreatDoor
namespace Big
theorem Canon.of_last {B : Nat} {l : List Nat} (h : Dig B l) (k : Nat) (hk : l.length = k + 1) (h0 : l.getD k 0 ≠ 0) : Canon B l := by
  refine ⟨h, ?_⟩
  rw [List.getLast?_eq_getElem?, hk, Nat.add_sub_cancel]
  rw [List.getD_eq_getElem?_getD] at h0
  intro e; rw [e] at h0; simp at h0
theorem Canon.zero_iff {B : Nat} (hB : 0 < B) {l : List Nat} (h : Canon B l) : val B l = 0 ↔ l = [] := by
  constructor
  · intro h0
    cases l with
    | nil => rfl
    | cons x t =>
      have := h.pow_le t.length (by simp)
      have hp : 0 < B ^ t.length := Nat.pow_pos hB
      omega
  · rintro rfl; rfl
end Big
namespace Go.Proofs.YtaldangjhdddoaaGreatDoor
open Go.RowKit
end Go.Proofs.YtaldangjhdddoaaGreatDoor
namespace Go.Proofs.YtaldangjhdddoaaGreatDoor
open Go.RowKit Big
end Go.Proofs.YtaldangjhdddoaaGreatDoor
set_option maxRecDepth 100000
set_option maxHeartbeats 3200000
namespace Big
def B9 : Nat := 1000000000
theorem B9_eq : B9 = 1000000000 := rfl
theorem B9_pos : 0 < B9 := by rw [B9_eq]; omega
theorem val_shift (B j : Nat) (l : List Nat) : val B (List.replicate j 0 ++ l) = B ^ j * val B l := by
  rw [val_append, val_zeros]; simp
theorem Canon.shift {B : Nat} {l : List Nat} (h : Canon B l) (hl : l ≠ []) (hB : 0 < B) (j : Nat) : Canon B (List.replicate j 0 ++ l) := by
  refine ⟨(Dig.zeros hB j).append h.1, ?_⟩
  rw [List.getLast?_append]
  have h2 := h.2
  cases he : l.getLast? with
  | none => exact absurd (List.getLast?_eq_none_iff.1 he) hl
  | some x => rw [he] at h2; simpa using h2
theorem val_drop_D (B : Nat) (l : List Nat) (m : Nat) : val B (l.drop m) = l.getD m 0 + B * val B (l.drop (m + 1)) := by
  by_cases h : m < l.length
  · rw [List.drop_eq_getElem_cons h, val_cons, List.getD_eq_getElem?_getD, List.getElem?_eq_getElem h]; rfl
  · rw [List.drop_eq_nil_of_le (by omega), List.drop_eq_nil_of_le (by omega), List.getD_eq_getElem?_getD, List.getElem?_eq_none (by omega)]; simp [val]
theorem val_div_pow {B : Nat} (hB : 0 < B) {l : List Nat} (hd : Dig B l) (m : Nat) : val B l / B ^ m = val B (l.drop m) := by
  by_cases h : m ≤ l.length
  · have h1 := val_split B l m h
    have h2 := val_lt (l.take m) (hd.take m)
    rw [List.length_take, Nat.min_eq_left h] at h2
    rw [h1, Nat.add_mul_div_left _ _ (Nat.pow_pos hB), Nat.div_eq_of_lt h2, Nat.zero_add]
  · rw [List.drop_eq_nil_of_le (by omega)]
    have h2 := val_lt l hd
    have h3 : B ^ l.length ≤ B ^ m := Nat.pow_le_pow_right hB (by omega)
    rw [Nat.div_eq_of_lt (by omega)]; rfl
theorem top_two {B : Nat} (hB : 0 < B) {l : List Nat} (hd : Dig B l) (m : Nat) (hl : l.length ≤ m + 2) : val B l / B ^ m = l.getD (m + 1) 0 * B + l.getD m 0 := by
  rw [val_div_pow hB hd, val_drop_D, val_drop_D, List.drop_eq_nil_of_le (by omega)]
  simp [val]; rw [Nat.mul_comm, Nat.add_comm]
structure DivInv (B A V M j : Nat) (L : List Nat) (R : Nat) : Prop where
  len : L.length = M
  dig : Dig B L
  eq : A = val B (L.drop j) * V * B ^ j + R
  lt : R < V * B ^ j
theorem DivInv.start {B A V M : Nat} (hB : 0 < B) (h : A < V * B ^ M) : DivInv B A V M M (List.replicate M 0) A :=
  ⟨by simp, Dig.zeros hB M, by rw [List.drop_eq_nil_of_le (by simp)]; simp [val], h⟩
theorem digit_below {B V R j : Nat} (h : R < V * B ^ (j + 1)) (hp : 0 < V * B ^ j) : R / (V * B ^ j) < B := by
  rw [Nat.div_lt_iff_lt_mul hp]
  have : B * (V * B ^ j) = V * B ^ (j + 1) := by rw [Nat.pow_succ]; grind
  omega
theorem DivInv.step {B A V M j : Nat} {L : List Nat} {R : Nat} (hB : 0 < B) (hV : 0 < V) (h : DivInv B A V M (j + 1) L R) (hj : j < M) (q : Nat) (hq : q = R / (V * B ^ j)) :
    DivInv B A V M j (L.set j q) (R - q * (V * B ^ j)) := by
  have hp : 0 < V * B ^ j := Nat.mul_pos hV (Nat.pow_pos hB)
  have hqB : q < B := by rw [hq]; exact digit_below h.lt hp
  have hR : R = q * (V * B ^ j) + R % (V * B ^ j) := by rw [hq, Nat.mul_comm]; exact (Nat.div_add_mod R _).symm
  have hsub : R - q * (V * B ^ j) = R % (V * B ^ j) := by omega
  have hjl : j < L.length := by rw [h.len]; exact hj
  refine ⟨by rw [List.length_set]; exact h.len, h.dig.set j q hqB, ?_, ?_⟩
  · rw [val_drop_D, List.drop_set_of_lt (by omega)]
    have hg : (L.set j q).getD j 0 = q := by rw [List.getD_eq_getElem?_getD, List.getElem?_set_self hjl]; rfl
    rw [hg]
    refine quo_inv h.eq ?_
    rw [hsub]
    have : q * V * B ^ j = q * (V * B ^ j) := by rw [Nat.mul_assoc]
    omega
  · rw [hsub]; exact Nat.mod_lt _ hp
theorem DivInv.done {B A V M : Nat} {L : List Nat} {R : Nat} (h : DivInv B A V M 0 L R) : val B L = A / V ∧ R = A % V := by
  have h1 := h.eq
  have h2 := h.lt
  rw [Nat.pow_zero, Nat.mul_one] at h1 h2
  rw [List.drop_zero] at h1
  have hV : 0 < V := by omega
  constructor
  · rw [h1, Nat.mul_comm, Nat.mul_add_div hV, Nat.div_eq_of_lt h2]; rfl
  · rw [h1, Nat.mul_comm, Nat.mul_add_mod, Nat.mod_eq_of_lt h2]
theorem first_guess {B V R j k : Nat} {v r : List Nat} (hB : 0 < B) (cv : Canon B v) (hv : val B v = V) (hk : v.length = k + 1) (cr : Canon B r) (hr : val B r = R) (h : R < V * B ^ (j + 1)) :
    r.length ≤ j + k + 2 ∧ 0 < v.getD k 0 ∧ R / (V * B ^ j) ≤ min ((r.getD (j + k + 1) 0 * B + r.getD (j + k) 0) / v.getD k 0) (B - 1) := by
  have hlv := val_lt v cv.1
  rw [hk, hv] at hlv
  have hlen : r.length ≤ j + k + 2 := by
    apply Nat.le_of_not_lt; intro h1
    obtain ⟨m, hm⟩ : ∃ m, r.length = m + 1 := ⟨r.length - 1, by omega⟩
    have h2 := cr.pow_le m hm
    have h3 : B ^ (j + k + 2) ≤ B ^ m := Nat.pow_le_pow_right hB (by omega)
    have h4 : V * B ^ (j + 1) ≤ B ^ (k + 1) * B ^ (j + 1) := Nat.mul_le_mul_right _ (by omega)
    rw [← Nat.pow_add] at h4
    have h5 : k + 1 + (j + 1) = j + k + 2 := by omega
    rw [h5] at h4
    omega
  have hkl : k < v.length := by omega
  have hvt : v.getD k 0 ≠ 0 := by
    rw [List.getD_eq_getElem?_getD]
    intro e
    apply cv.2
    rw [List.getLast?_eq_getElem?, hk, Nat.add_sub_cancel, List.getElem?_eq_getElem hkl]
    rw [List.getElem?_eq_getElem hkl] at e
    simpa using e
  have hVge : v.getD k 0 * B ^ k ≤ V := by
    have h1 := val_take_succD B v k
    rw [List.take_of_length_le (by omega), hv] at h1
    rw [h1, Nat.mul_comm]; omega
  have hV : 0 < V := by
    have : 0 < v.getD k 0 * B ^ k := Nat.mul_pos (by omega) (Nat.pow_pos hB)
    omega
  have hp : 0 < V * B ^ j := Nat.mul_pos hV (Nat.pow_pos hB)
  refine ⟨hlen, by omega, ?_⟩
  rw [Nat.le_min]
  constructor
  · have ht := top_two hB cr.1 (j + k) (by omega)
    rw [hr] at ht
    rw [← ht]
    refine guess_ge (D := V * B ^ j) (R := R) (P := B ^ (j + k)) (low := R % B ^ (j + k)) (by omega) (Nat.div_mul_le_self _ _) ?_ ?_ (Nat.mod_lt _ (Nat.pow_pos hB))
    · have : v.getD k 0 * B ^ (j + k) = v.getD k 0 * B ^ k * B ^ j := by rw [Nat.mul_assoc, ← Nat.pow_add, Nat.add_comm k j]
      rw [this]; exact Nat.mul_le_mul_right _ hVge
    · rw [Nat.mul_comm]; exact (Nat.div_add_mod R _).symm
  · have := digit_below h hp; omega
theorem guess_low {D R g : Nat} (_hD : 0 < D) (_hq : R / D ≤ g) (h : R < D * g) : R / D ≤ g - 1 ∧ 0 < g := by
  have h1 : R / D < g := by rw [Nat.div_lt_iff_lt_mul _hD, Nat.mul_comm]; exact h
  exact ⟨Nat.le_sub_one_of_lt h1, Nat.lt_of_le_of_lt (Nat.zero_le _) h1⟩
theorem guess_right {D R g : Nat} (hD : 0 < D) (hq : R / D ≤ g) (h : ¬ R < D * g) : g = R / D := by
  have : g ≤ R / D := by rw [Nat.le_div_iff_mul_le hD, Nat.mul_comm]; omega
  omega
theorem scaled_end {a b s q R : Nat} (hs : 0 < s) (_hb : 0 < b) (hq : q = a * s / (b * s)) (hR : R = a * s % (b * s)) : q = a / b ∧ R / s = a % b := by
  subst hq hR
  constructor
  · exact Nat.mul_div_mul_right a b hs
  · rw [Nat.mul_mod_mul_right, Nat.mul_div_cancel _ hs]
theorem quo_places {B A V k : Nat} {v r : List Nat} (cv : Canon B v) (hv : val B v = V) (hk : v.length = k + 1) (cr : Canon B r) (hr : val B r = A) (h : V ≤ A) :
    k + 1 ≤ r.length ∧ A < V * B ^ (r.length - (k + 1) + 1) := by
  have h1 : v.length ≤ r.length := Canon.length_le cv cr.1 (by omega)
  refine ⟨by omega, ?_⟩
  have h2 := val_lt r cr.1
  have h3 := cv.pow_le k hk
  rw [hv] at h3
  have h4 : B ^ k * B ^ (r.length - (k + 1) + 1) ≤ V * B ^ (r.length - (k + 1) + 1) := Nat.mul_le_mul_right _ h3
  rw [← Nat.pow_add, show k + (r.length - (k + 1) + 1) = r.length from by omega] at h4
  omega
theorem B9_pow (k : Nat) : B9 ^ k = 10 ^ (9 * k) := by
  rw [B9_eq, show (1000000000 : Nat) = 10 ^ 9 from rfl, ← Nat.pow_mul]
theorem sum_step {B p c c' a b s z x y : Nat} (h : z + p * c = x + y) (hs : s + B * c' = c + a + b) : (z + p * s) + p * B * c' = (x + p * a) + (y + p * b) := by
  have : p * (s + B * c') = p * (c + a + b) := by rw [hs]
  grind
theorem less_step {B p c c' a b s z x y : Nat} (h : z + y = x + p * c) (hs : s + b + c = a + B * c') : (z + p * s) + (y + p * b) = (x + p * a) + p * B * c' := by
  have : p * (s + b + c) = p * (a + B * c') := by rw [hs]
  grind
end Big
namespace Go.Proofs.YtaldangjhdddoaaGreatDoor
open Go.RowKit Big
def Nat9 (w : World) (v : Value) (x : Nat) : Prop := ∃ p n c l, v = .slice p n c ∧ (n ≤ c ∧ (p = none → c = 0)) ∧ Rd w p n l ∧ Canon B9 l ∧ val B9 l = x
theorem Nat9.below {w w' : World} {v : Value} {x : Nat} (h : Nat9 w v x) (hb : Below w.heap.size w w') : Nat9 w' v x := by
  obtain ⟨p, n, c, l, h1, h2, h3, h4⟩ := h
  exact ⟨p, n, c, l, h1, h2, h3.below hb, h4⟩
theorem Nat9.zero (w : World) : Nat9 w (.slice none 0 0) 0 := ⟨none, 0, 0, [], rfl, ⟨Nat.le_refl _, fun _ => rfl⟩, Rd.nil _ _, Canon.nil _, rfl⟩
theorem Nat9.slice {w : World} {v : Value} {x : Nat} (h : Nat9 w v x) : ∃ p n c, v = .slice p n c := by
  obtain ⟨p, n, c, _, h1, _⟩ := h
  exact ⟨p, n, c, h1⟩
theorem limbs9 {l : List Nat} {x K : Nat} (h : Canon B9 l) (hx : val B9 l = x) (hK : x < B9 ^ K) : l.length ≤ K := by
  apply Nat.le_of_not_lt; intro h1
  obtain ⟨k, hk⟩ : ∃ k, l.length = k + 1 := ⟨l.length - 1, by omega⟩
  have h2 := h.pow_le k hk
  have h3 : B9 ^ K ≤ B9 ^ k := Nat.pow_le_pow_right B9_pos (by omega)
  omega
theorem pow9 {x K : Nat} {l : List Nat} {n : Nat} {p : Option Addr} {w : World} (hc : Canon B9 l) (hv : val B9 l = x) (hx : x < B9 ^ K) (hl : Rd w p n l) : n ≤ K := by
  have := limbs9 hc hv hx; rw [hl.len] at this; exact this
theorem Nat9.zero_iff {w : World} {p : Option Addr} {n c x : Nat} (h : Nat9 w (.slice p n c) x) : n = 0 ↔ x = 0 := by
  obtain ⟨p', n', c', l, h1, h2, h3, h4, h5⟩ := h
  cases h1
  have := Canon.zero_iff B9_pos h4
  rw [h5] at this
  rw [this, ← h3.len, List.length_eq_zero_iff]
def Fresh (B : Nat) (v : Value) : Prop := ∀ b o n c, v = .slice (some ⟨b, o, none⟩) n c → B ≤ b
def Post9 (x : Nat) (w : World) (e : Ending) (w' : World) : Prop := ∃ v, e = .returned v ∧ Nat9 w' v x ∧ Below w.heap.size w w' ∧ Fresh w.heap.size v
theorem drop_zeros9 (L : List Nat) (k : Nat) (h : ∀ j, k ≤ j → j < L.length → L.getD j 0 = 0) : val B9 (L.drop k) = 0 := by
  have : L.drop k = List.replicate (L.length - k) 0 := by
    apply List.ext_getElem
    · simp
    · intro i h1 h2
      have := h (k + i) (by omega) (by simp at h1; omega)
      rw [List.getD_eq_getElem?_getD, List.getElem?_eq_getElem (by simp at h1; omega)] at this
      simpa using this
  rw [this, val_zeros]
theorem trim_post9 {p : Option Addr} {n c : Nat} {l : List Nat} {w0 w w' : World} {e : Ending} (hnc : n ≤ c ∧ (p = none → c = 0)) (hf : ∀ b o, p = some ⟨b, o, none⟩ → w0.heap.size ≤ b) (hl : Rd w p n l) (hd : Dig B9 l) (hb : Below w0.heap.size w0 w) (h : Trim p n c l w e w') : Post9 (val B9 l) w0 e w' := by
  obtain ⟨k, hk, rfl, rfl, hz, h0⟩ := h
  refine ⟨_, rfl, ⟨p, k, c, l.take k, rfl, ⟨by omega, hnc.2⟩, hl.take k hk, ⟨hd.take k, ?_⟩, ?_⟩, hb, fun b o n' c' h => by cases h; exact hf b o rfl⟩
  · rcases h0 with rfl | h0
    · simp
    · obtain ⟨j, rfl⟩ : ∃ j, k = j + 1 := ⟨k - 1, by
        have : k ≠ 0 := by
          rintro rfl
          by_cases h1 : 0 < n
          · exact h0 (hz 0 (by omega) h1)
          · apply h0; rw [List.getD_eq_getElem?_getD, List.getElem?_eq_none (by rw [hl.len]; omega)]; rfl
        omega⟩
      rw [List.getLast?_eq_getElem?, List.length_take, Nat.min_eq_left (by rw [hl.len]; exact hk), Nat.add_sub_cancel, List.getElem?_take_of_lt (by omega)]
      rw [Nat.add_sub_cancel, List.getD_eq_getElem?_getD] at h0
      intro e1; rw [e1] at h0; exact h0 rfl
  · rw [val_split B9 l k (by rw [hl.len]; exact hk), drop_zeros9 l k (fun j h1 h2 => hz j h1 (by rw [hl.len] at h2; exact h2))]
    omega
theorem own_rd {w : World} {base n : Nat} {v : Value} {L : List Nat} (h : w.ownsRow base 125 1 v n (u64s L)) : ∃ p c, v = .slice p n c ∧ (n ≤ c ∧ (p = none → c = 0)) ∧ Rd w p n L ∧ ∀ b o, p = some ⟨b, o, none⟩ → base ≤ b := by
  obtain ⟨h1, h2⟩ := h
  rw [u64s_length, Nat.mul_one] at h1
  rcases h2 with ⟨rfl, rfl⟩ | ⟨g, cap, cur, rfl, hg, hh, hn, hm, hs, hc⟩
  · exact ⟨none, 0, rfl, ⟨Nat.le_refl _, fun _ => rfl⟩, by rw [List.eq_nil_of_length_eq_zero h1]; exact Rd.nil _ _, fun b o h => by cases h⟩
  · refine ⟨_, cap, rfl, ⟨hn, fun h => by cases h⟩, ⟨h1, ?_⟩, fun b o h => by cases h; exact hg⟩
    by_cases h0 : n = 0
    · exact .inl h0
    · refine .inr ⟨g, 0, rfl, (Array.getElem?_eq_some_iff.1 hh).1, fun j hj => ?_⟩
      rw [Nat.mul_one] at hc
      have hjl : j < L.length := by omega
      have e : cur[j]? = (u64s L)[j]? := by
        rw [← hc, List.getElem?_take_of_lt hj, Array.getElem?_toList]
      rw [Nat.zero_add]
      simp only [World.cell?, hh]
      simp [e, u64s, List.getD_eq_getElem?_getD, hjl]
structure Acc (w wr : World) (v : Value) (L : List Nat) : Prop where
  own : wr.ownsRow w.heap.size 125 1 v L.length (u64s L)
  below : Below w.heap.size w wr
theorem Acc.nil (w wr : World) (h : Below w.heap.size w wr) : Acc w wr (.slice none 0 0) [] := ⟨World.ownsRow_nil _ _ _ _, h⟩
theorem Acc.next {w wr w5 : World} {v v5 : Value} {L : List Nat} {m x : Nat} {o : Obj} (h : Acc w wr v L) (hm : m = L.length + 1) (hown : w5.ownsRow w.heap.size 125 1 v5 m (u64s L ++ [.int .u64 (x : Int)])) (hg : (wr.alloc o).grownBy w5 v.ownBlock) : Acc w w5 v5 (L ++ [x]) := by
  subst hm
  refine ⟨?_, ?_⟩
  · have e : u64s (L ++ [x]) = u64s L ++ [.int .u64 (x : Int)] := by simp [u64s]
    rw [e, List.length_append]; exact hown
  · exact (h.below.alloc h.below.size o).grown hg (by simp; have := h.below.size; omega) (fun k hk => (h.own.lt k hk).1)
theorem Acc.drewN {w wr : World} {v : Value} {L : List Nat} (h : Acc w wr v L) (k : Nat) : Acc w (wr.drewN k) v L := ⟨h.own, h.below.trans (below_drewN _ _ _)⟩
theorem Acc.nat {w wr : World} {v : Value} {L : List Nat} (h : Acc w wr v L) (hc : Canon B9 L) : Post9 (val B9 L) w (.returned v) wr := by
  obtain ⟨p, c, rfl, hn, hr, hf⟩ := own_rd h.own
  exact ⟨_, rfl, ⟨p, _, c, L, rfl, hn, hr, hc, rfl⟩, h.below, fun b o n c' h => by cases h; exact hf b o rfl⟩
theorem underlying36 : Tryz.prog.underlying 100 = some (.slice 125) := by kernel_rfl
theorem trim_any (p : Option Addr) (n c : Nat) (l : List Nat) (w : World) (hn : n ≤ maxLen) (hnc : n ≤ c) (hl : Rd w p n l) :
    Calls Tryz.prog 127 #[.slice p n c] w (Trim p n c l w) := by
  unfold maxLen at hn
  go_enter Tryz.func127, Tryz.ntmps127
  go_wp2
  go_loop [3] (fun i => ∃ k : Nat, k ≤ n ∧ i = .int .i64 k ∧ ∀ j, k ≤ j → j < n → l.getD j 0 = 0) (fun i => (intOf i).toNat)
  case atStart => exact ⟨n, Nat.le_refl _, rfl, fun j h1 h2 => by omega⟩
  case round =>
    obtain ⟨k, hk, rfl, hz⟩ := hrel
    have Hz := hiD hz
    clear hz
    by_cases h0 : k = 0
    · subst h0
      go_wp2
      go_ret
      exact ⟨0, by omega, rfl, rfl, Hz.out, .inl rfl⟩
    · obtain ⟨b, off, d, rfl, hb, hc, hd⟩ := hl.at (k := k - 1) (by omega)
      by_cases hz : d = 0
      · subst hz
        go_wp2
        go_round
        case rel => exact ⟨k - 1, by omega, by go_num, fun j h1 h2 => by
          by_cases e : j = k - 1
          · rw [e]; exact hd.out
          · exact Hz.out j (by omega) h2⟩
        case measure => simp [intOf]; omega
      · have hz' : ((d : Int) == 0) = false := by simpa using hz
        go_wp2
        go_ret
        exact ⟨k, hk, rfl, rfl, Hz.out, .inr (by rw [hd.out]; exact hz)⟩
theorem Canon.of_ge {B : Nat} {L : List Nat} {k : Nat} (hd : Dig B L) (hk : L.length = k + 1) (h : B ^ k ≤ val B L) : Canon B L := by
  refine Canon.of_last hd k hk ?_
  intro h0
  have h1 := val_take_succD B L k
  rw [List.take_of_length_le (by omega), h0, Nat.mul_zero, Nat.add_zero] at h1
  have h2 := val_lt (L.take k) (hd.take k)
  rw [List.length_take, Nat.min_eq_left (by omega)] at h2
  omega
theorem natOf_step {N k : Nat} {L : List Nat} (h : k ≤ N ∧ L.length ≤ 3 ∧ Dig B9 L ∧ val B9 L + B9 ^ L.length * k = N ∧ (k = 0 → Canon B9 L)) (hN : N < 18446744073709551616) (h0 : ¬ k = 0) :
    k / 1000000000 ≤ N ∧ (L ++ [k % 1000000000]).length ≤ 3 ∧ Dig B9 (L ++ [k % 1000000000]) ∧ val B9 (L ++ [k % 1000000000]) + B9 ^ (L ++ [k % 1000000000]).length * (k / 1000000000) = N ∧ (k / 1000000000 = 0 → Canon B9 (L ++ [k % 1000000000])) := by
  obtain ⟨h1, h2, h3, h4, h5⟩ := h
  have hd : Dig B9 (L ++ [k % 1000000000]) := h3.append (Dig.one (by rw [B9_eq]; omega))
  have hl : L.length ≤ 2 := by
    apply Nat.le_of_not_lt; intro h6
    have : L.length = 3 := by omega
    rw [this] at h4
    have h7 : B9 ^ 3 * 1 ≤ B9 ^ 3 * k := Nat.mul_le_mul_left _ (by omega)
    have h8 : B9 ^ 3 = 1000000000000000000000000000 := by rw [B9_eq]
    omega
  refine ⟨by omega, by simp; omega, hd, ?_, ?_⟩
  · rw [val_snoc, List.length_append, List.length_singleton, Nat.pow_succ, ← h4]
    have : k = k % 1000000000 + B9 * (k / 1000000000) := by rw [B9_eq]; omega
    have h9 : B9 ^ L.length * k = B9 ^ L.length * (k % 1000000000 + B9 * (k / 1000000000)) := by rw [← this]
    rw [h9]; grind
  · intro h6
    refine Canon.of_last hd L.length (by simp) ?_
    rw [List.getD_eq_getElem?_getD, List.getElem?_append_right (Nat.le_refl _), Nat.sub_self]
    simp; omega
theorem natOf_any (N : Nat) (w : World) (hN : N < 18446744073709551616) :
    Calls Tryz.prog 109 #[.int .u64 N] w (Post9 N w) := by
  obtain ⟨i0, hi, hz0, hz1, hz2⟩ := info_parts info79
  have HN := hiD hN
  clear hN
  go_enter Tryz.func109, Tryz.ntmps109
  go_wp2_with fail
  go_loopw [0, 3] (fun nv ov wr => ∃ (k : Nat) (L : List Nat), nv = .int .u64 k ∧ Hid (k ≤ N ∧ L.length ≤ 3 ∧ Dig B9 L ∧ val B9 L + B9 ^ L.length * k = N ∧ (k = 0 → Canon B9 L)) ∧ Hid (Acc w wr ov L)) (fun nv _ _ => (intOf nv).toNat)
  case atStart => exact ⟨N, [], rfl, hiD ⟨Nat.le_refl _, by simp, Dig.nil _, by simp [val], fun _ => Canon.nil _⟩, hiD (Acc.nil _ _ (Below.refl _ _))⟩
  case round =>
    obtain ⟨k, L, rfl, hinv, hacc⟩ := hrel
    obtain ⟨po, no, co, rfl⟩ : ∃ p n c, u3 = .slice p n c := by
      obtain ⟨p, c, h, _⟩ := own_rd hacc.out.own; exact ⟨_, _, _, h⟩
    by_cases h0 : k = 0
    · subst h0
      have hfin : Hid (Post9 N w (.returned (.slice po no co)) wr) := hiD (by
        have h := hacc.out.nat (hinv.out.2.2.2.2 rfl)
        have h2 := hinv.out.2.2.2.1
        rw [Nat.mul_zero, Nat.add_zero] at h2
        rw [← h2]; exact h)
      go_wp2_with fail
      go_ret
      exact hfin.out
    · have hlen : Hid (L.length + 1 ≤ maxLen ∧ (L.length + 1) * 8 ≤ 140737488355328 ∧ w.heap.size ≤ wr.heap.size + 1) := hiD (by
        have := hinv.out.2.1
        have h := hacc.out.below.size
        unfold maxLen; omega)
      have hstep := hiD (natOf_step hinv.out HN.out h0)
      have hk : (0 : Int) < k := by omega
      have hkb : (k : Int) ≤ 18446744073709551615 := by have h1 := hinv.out.1; have h2 := HN.out; omega
      go_wp2_with (at_builtin; refine wpList_append_own _ rfl (.tmp 6) (.tmp 9) 100 rfl w.heap.size 125 i0 (.int .u64 0) 1 8 underlying36 hi hz0 hz1 hz2 rfl (by decide) _ _ _ rfl ((hacc.out.own).alloc _) ⟨_, 0, none⟩ 1 1 [.int .u64 ((k : Int) % 1000000000)] rfl rfl (cell_one_new _ _ _) (by intro u hu; simp at hu; subst hu; rfl) hlen.out.1 hlen.out.2.1 (by simp; exact hlen.out.2.2) ?_)
      intro v5 w5 hown5 hgrow5 _
      have hnext := hiD (hacc.out.next (x := k % 1000000000) rfl hown5 hgrow5)
      clear hown5 hgrow5
      go_wp2_with fail
      go_roundw
      case rel => exact ⟨k / 1000000000, _, rfl, hstep, hnext⟩
      case measure => simp [intOf]; omega
theorem drewN2 (w : World) (a b : Nat) : ∃ k, w.drewN k = (w.drewN a).drewN b := ⟨a + b, by simp only [World.drewN_drewN]⟩
theorem cmp_length9 {x y : List Nat} (hx : Canon B9 x) (hy : Canon B9 y) (h : x.length < y.length) : cmp3 (val B9 x) (val B9 y) = -1 ∧ cmp3 (val B9 y) (val B9 x) = 1 := by
  have := Canon.lt_of_length hx.1 hy h
  unfold cmp3
  constructor
  · rw [if_pos this]
  · rw [if_neg (by omega), if_pos this]
theorem cmp_digit9 {x y : List Nat} (hl : x.length = y.length) (hx : Dig B9 x) (k : Nat) (hk : k < x.length) (hd : x.drop (k + 1) = y.drop (k + 1)) (hne : x.getD k 0 < y.getD k 0) : cmp3 (val B9 x) (val B9 y) = -1 ∧ cmp3 (val B9 y) (val B9 x) = 1 := by
  have e1 := val_split B9 x (k + 1) (by omega)
  have e2 := val_split B9 y (k + 1) (by omega)
  have hky : k < y.length := by rw [← hl]; exact hk
  have g1 : x.getD k 0 = x[k] := by rw [List.getD_eq_getElem?_getD, List.getElem?_eq_getElem hk]; rfl
  have g2 : y.getD k 0 = y[k] := by rw [List.getD_eq_getElem?_getD, List.getElem?_eq_getElem hky]; rfl
  rw [g1, g2] at hne
  rw [hd] at e1
  have := val_lt_of_digit (B := B9) x y k hx hk hky hne
  unfold cmp3
  constructor
  · rw [if_pos (by omega)]
  · rw [if_neg (by omega), if_pos (by omega)]
theorem natCmp_same (p : Option Addr) (n c : Nat) (x : List Nat) (q : Option Addr) (d : Nat) (y : List Nat) (w : World) (hn : n ≤ most) (hx : Rd w p n x) (hy : Rd w q n y) (dx : Dig B9 x) (dy : Dig B9 y) :
    Calls Tryz.prog 147 #[.slice p n c, .slice q n d] w (CmpPost (val B9 x) (val B9 y) w) := by
  have hn1 : (n : Int) ≤ 4294967296 := by unfold most at hn; omega
  have h1 : ((n : Int) != n) = false := by simp
  have hl : x.length = y.length := by rw [hx.len, hy.len]
  have Hl := hiD hl
  clear hl
  go_enter Tryz.func147, Tryz.ntmps147
  go_wp2
  go_loopw [5] (fun i wr => ∃ (k : Nat) (z : Int) (t : Nat), k ≤ n ∧ i = .int .i64 z ∧ z + 1 = k ∧ x.drop k = y.drop k ∧ wr = w.drewN t) (fun i _ => (intOf i + 1).toNat)
  case atStart => exact ⟨n, (n : Int) - 1, 0, Nat.le_refl _, rfl, by omega, by rw [List.drop_eq_nil_of_le (by rw [hx.len]; omega), List.drop_eq_nil_of_le (by rw [hy.len]; omega)], rfl⟩
  case round =>
    obtain ⟨k, z, t, hk, rfl, hz, hd, rfl⟩ := hrel
    have Hd := hiD hd
    clear hd
    by_cases h0 : k = 0
    · obtain rfl : z = -1 := by omega
      subst h0
      have hxy : cmp3 (val B9 x) (val B9 y) = 0 := by
        have := Hd.out; simp at this; rw [this]; simp [cmp3]
      have Hxy := hiD hxy
      clear hxy hz
      go_wp2
      go_ret
      exact ⟨by rw [Hxy.out]; rfl, t, rfl⟩
    · obtain ⟨j, rfl⟩ : ∃ j : Nat, z = j := ⟨z.toNat, by omega⟩
      obtain rfl : k = j + 1 := by omega
      clear hz h0
      obtain ⟨b1, o1, a, rfl, hb1, hc1, ha⟩ := hx.at (k := j) (by omega)
      obtain ⟨b2, o2, b, rfl, hb2, hc2, hb⟩ := hy.at (k := j) (by omega)
      have g1 : (w.drewN t).cell? ⟨b1, o1 + j, none⟩ = some (.int .u64 (a : Int)) := hc1
      have g2 : (w.drewN t).cell? ⟨b2, o2 + j, none⟩ = some (.int .u64 (b : Int)) := hc2
      have bj : (0 : Int) ≤ j := by omega
      have bj2 : (j : Int) < n := by omega
      have hlx : j < x.length := by rw [hx.len]; omega
      rcases Nat.lt_trichotomy a b with hab | hab | hab
      · have e1 : decide (a < b) = true := by simpa using hab
        have hcmp := (cmp_digit9 Hl.out dx j hlx Hd.out (by rw [ha.out, hb.out]; exact hab)).1
        have Hcmp := hiD hcmp
        clear hcmp hab
        go_wp2
        go_quiet (fail)
        go_wp2
        go_ret
        exact ⟨by rw [Hcmp.out]; rfl, drewN2 _ _ _⟩
      · subst hab
        have e1 : decide (a < a) = false := by simp
        have hd' := drop_eq_of_succ Hl.out j hlx Hd.out (by rw [ha.out, hb.out])
        have Hd' := hiD hd'
        clear hd'
        go_wp2
        go_quiet (fail)
        go_wp2
        go_quiet (fail)
        go_wp2
        go_roundw
        case rel => exact ⟨j, (j : Int) - 1, _, by omega, rfl, by omega, Hd'.out, rfl⟩
        case measure => simp [intOf]
      · have e1 : decide (a < b) = false := by simp; omega
        have e2 : decide (b < a) = true := by simpa using hab
        have hcmp := (cmp_digit9 Hl.out.symm dy j (by rw [← Hl.out]; exact hlx) Hd.out.symm (by rw [ha.out, hb.out]; exact hab)).2
        have Hcmp := hiD hcmp
        clear hcmp hab
        go_wp2
        go_quiet (fail)
        go_wp2
        go_quiet (fail)
        go_wp2
        go_ret
        exact ⟨by rw [Hcmp.out]; rfl, drewN3 _ _ _ _⟩
theorem natCmp_other (p : Option Addr) (n c : Nat) (x : List Nat) (q : Option Addr) (m d : Nat) (y : List Nat) (w : World) (hn : n ≤ most) (hm : m ≤ most) (hnm : n ≠ m) (hx : Rd w p n x) (hy : Rd w q m y) (cx : Canon B9 x) (cy : Canon B9 y) :
    Calls Tryz.prog 147 #[.slice p n c, .slice q m d] w (CmpPost (val B9 x) (val B9 y) w) := by
  have hn1 : (n : Int) ≤ 4294967296 := by unfold most at hn; omega
  have hm1 : (m : Int) ≤ 4294967296 := by unfold most at hm; omega
  have h1 : ((n : Int) != m) = true := by simp; omega
  rcases Nat.lt_or_gt_of_ne hnm with h2 | h2
  · have Hc := hiD (cmp_length9 cx cy (by rw [hx.len, hy.len]; exact h2)).1
    have h3 : (n : Int) < m := by omega
    go_enter Tryz.func147, Tryz.ntmps147
    go_wp2
    go_ret
    exact ⟨by rw [Hc.out]; rfl, 0, rfl⟩
  · have Hc := hiD (cmp_length9 cy cx (by rw [hx.len, hy.len]; exact h2)).2
    have h3 : ¬ (n : Int) < m := by omega
    go_enter Tryz.func147, Tryz.ntmps147
    go_wp2
    go_ret
    exact ⟨by rw [Hc.out]; rfl, 0, rfl⟩
theorem natCmp_nat (u v : Value) (a b K : Nat) (w : World) (hK : K ≤ most) (ha : a < B9 ^ K) (hb : b < B9 ^ K) (hu : Nat9 w u a) (hv : Nat9 w v b) : Calls Tryz.prog 147 #[u, v] w (CmpPost a b w) := by
  obtain ⟨p, n, c, x, rfl, h1, h2, h3, h4⟩ := hu
  obtain ⟨q, m, d, y, rfl, g1, g2, g3, g4⟩ := hv
  have hn := pow9 h3 h4 ha h2
  have hm := pow9 g3 g4 hb g2
  rw [← h4, ← g4]
  by_cases hnm : n = m
  · subst hnm
    exact natCmp_same p n c x q d y w (by omega) h2 g2 h3.1 g3.1
  · exact natCmp_other p n c x q m d y w (by omega) (by omega) hnm h2 g2 h3 g3
structure AddInv9 (x y : List Nat) (k c : Nat) (L : List Nat) : Prop where
  len : L.length = k
  dig : Dig B9 L
  car : c ≤ 1
  eq : val B9 L + B9 ^ k * c = val B9 (x.take k) + val B9 (y.take k)
  top : k ≤ max x.length y.length ∨ (k = max x.length y.length + 1 ∧ c = 0 ∧ B9 ^ max x.length y.length ≤ val B9 x + val B9 y)
theorem AddInv9.start (x y : List Nat) : AddInv9 x y 0 0 [] := ⟨rfl, Dig.nil _, by omega, by simp [val], .inl (Nat.zero_le _)⟩
theorem AddInv9.step {x y : List Nat} {k c : Nat} {L : List Nat} (h : AddInv9 x y k c L) (dx : Dig B9 x) (dy : Dig B9 y) (a b s : Nat) (ha : x.getD k 0 = a) (hb : y.getD k 0 = b) (hs : s = c + a + b) (hg : k < max x.length y.length ∨ c = 1) :
    AddInv9 x y (k + 1) (s / 1000000000) (L ++ [s % 1000000000]) := by
  have h1 := dx.getD B9_pos k
  have h2 := dy.getD B9_pos k
  rw [ha] at h1; rw [hb] at h2
  have h3 := h.car
  have e9 := B9_eq
  refine ⟨by rw [List.length_append, h.len]; rfl, h.dig.append (Dig.one (by omega)), by omega, ?_, ?_⟩
  · rw [val_snoc, h.len, val_take_succD, val_take_succD, ha, hb, Nat.pow_succ]
    exact sum_step h.eq (by rw [B9_eq]; omega)
  · rcases h.top with h4 | ⟨_, h4, _⟩
    · by_cases h5 : k < max x.length y.length
      · exact .inl (by omega)
      · have hc : c = 1 := by omega
        have hk : k = max x.length y.length := by omega
        have ha0 : a = 0 := by rw [← ha, List.getD_eq_getElem?_getD, List.getElem?_eq_none (by omega)]; rfl
        have hb0 : b = 0 := by rw [← hb, List.getD_eq_getElem?_getD, List.getElem?_eq_none (by omega)]; rfl
        refine .inr ⟨by omega, by omega, ?_⟩
        have h6 := h.eq
        rw [hc, List.take_of_length_le (by omega), List.take_of_length_le (by omega), Nat.mul_one] at h6
        rw [← hk]; omega
    · omega
theorem AddInv9.done {x y : List Nat} {k : Nat} {L : List Nat} (h : AddInv9 x y k 0 L) (cx : Canon B9 x) (cy : Canon B9 y) (h1 : x.length ≤ k) (h2 : y.length ≤ k) : Canon B9 L ∧ val B9 L = val B9 x + val B9 y := by
  have h3 := h.eq
  rw [List.take_of_length_le (by omega), List.take_of_length_le (by omega), Nat.mul_zero, Nat.add_zero] at h3
  refine ⟨?_, h3⟩
  by_cases h0 : k = 0
  · have := h.len
    rw [h0] at this
    rw [List.eq_nil_of_length_eq_zero this]; exact Canon.nil _
  · obtain ⟨j, rfl⟩ : ∃ j, k = j + 1 := ⟨k - 1, by omega⟩
    refine Canon.of_ge h.dig h.len ?_
    rw [h3]
    rcases h.top with h4 | ⟨h4, _, h5⟩
    · by_cases h6 : x.length ≤ y.length
      · have := cy.pow_le j (by omega); omega
      · have := cx.pow_le j (by omega); omega
    · have : j = max x.length y.length := by omega
      rw [this]; exact h5
end Go.Proofs.YtaldangjhdddoaaGreatDoor
set_option maxHeartbeats 3200000
set_option maxRecDepth 100000
namespace Go.Proofs.YtaldangjhdddoaaGreatDoor
open Go.RowKit Big
structure SubInv9 (x y : List Nat) (k d : Nat) (L : List Nat) : Prop where
  len : L.length = k
  dig : Dig B9 L
  owe : d ≤ 1
  eq : val B9 L + val B9 (y.take k) = val B9 (x.take k) + B9 ^ k * d
theorem SubInv9.start (x y : List Nat) : SubInv9 x y 0 0 [] := ⟨rfl, Dig.nil _, by omega, by simp [val]⟩
theorem SubInv9.step {x y : List Nat} {k d : Nat} {L : List Nat} (h : SubInv9 x y k d L) (_dx : Dig B9 x) (_dy : Dig B9 y) (a b s d' : Nat) (ha : x.getD k 0 = a) (hb : y.getD k 0 = b) (hs : s + b + d = a + 1000000000 * d') (hd : d' ≤ 1) (hs9 : s < 1000000000) :
    SubInv9 x y (k + 1) d' (L ++ [s]) := by
  refine ⟨by rw [List.length_append, h.len]; rfl, h.dig.append (Dig.one (by rw [B9_eq]; exact hs9)), hd, ?_⟩
  rw [val_snoc, h.len, val_take_succD, val_take_succD, ha, hb, Nat.pow_succ]
  exact less_step h.eq (by rw [B9_eq]; exact hs)
theorem SubInv9.done {x y : List Nat} {k d : Nat} {L : List Nat} (h : SubInv9 x y k d L) (h1 : x.length = k) (h2 : y.length ≤ k) (hle : val B9 y ≤ val B9 x) : val B9 L = val B9 x - val B9 y := by
  have h3 := h.eq
  rw [List.take_of_length_le (by omega), List.take_of_length_le (by omega)] at h3
  have h4 := val_lt L h.dig
  rw [h.len] at h4
  have h5 : d = 0 := by
    apply Nat.eq_zero_of_not_pos; intro h6
    have : B9 ^ k * 1 ≤ B9 ^ k * d := Nat.mul_le_mul_left _ h6
    omega
  subst h5
  omega
theorem natSub_any (p : Option Addr) (n c0 : Nat) (x : List Nat) (q : Option Addr) (m d0 : Nat) (y : List Nat) (w : World) (hn0 : n ≤ most) (hmn : m ≤ n) (hx : Rd w p n x) (hy : Rd w q m y) (dx : Dig B9 x) (dy : Dig B9 y) (hle : val B9 y ≤ val B9 x) :
    Calls Tryz.prog 149 #[.slice p n c0, .slice q m d0] w (Post9 (val B9 x - val B9 y) w) := by
  obtain ⟨i0, hi, hz0, hz1, hz2⟩ := info_parts info79
  have hn : (n : Int) ≤ 4294967296 := by unfold most at hn0; omega
  have hm : (m : Int) ≤ n := by omega
  have HX := hiD dx
  have HY := hiD dy
  have Hle := hiD hle
  clear dx dy hle
  go_enter Tryz.func149, Tryz.ntmps149
  go_wp2_with (at_make; refine wpList_make_own _ rfl _ _ 100 rfl w.heap.size 125 i0 (.int .u64 0) 1 underlying36 hi hz0 hz1 _ _ _ n rfl rfl rfl ?b2 ?b3 (Nat.le_refl _) ?_)
  case b2 => rw [hz2]; omega
  case b3 => unfold maxLen; omega
  intro w1 hown hgrow
  have hacc0 : Hid (Acc w w1 (.slice (some ⟨w.heap.size, 0, none⟩) 0 n) []) := hiD ⟨hown, (Below.refl _ _).grown hgrow (Nat.le_refl _) (fun k h => by cases h)⟩
  clear hown hgrow
  go_wp2_with fail
  go_loopw [5, 6, 15] (fun ov dv iv wr => ∃ (k d : Nat) (L : List Nat), dv = .int .u64 d ∧ iv = .int .i64 k ∧ Hid (SubInv9 x y k d L ∧ k ≤ n) ∧ Hid (Acc w wr ov L)) (fun _ _ iv _ => n - (intOf iv).toNat)
  case atStart => exact ⟨0, 0, [], rfl, rfl, hiD ⟨SubInv9.start x y, Nat.zero_le _⟩, hacc0⟩
  case round =>
    obtain ⟨k, d, L, rfl, rfl, hinv, hacc⟩ := hrel
    obtain ⟨po, no, co, hov, hno⟩ : ∃ p n c, u5 = .slice p n c ∧ n = L.length := by
      obtain ⟨p, c, h, _⟩ := own_rd hacc.out.own; exact ⟨_, _, _, h, rfl⟩
    have hlx : Hid (x.length = n) := hiD hx.len
    have hly : Hid (y.length = m) := hiD hy.len
    have hlen : Hid (L.length + 1 ≤ maxLen ∧ (L.length + 1) * 8 ≤ 140737488355328 ∧ w.heap.size ≤ wr.heap.size + 1) := hiD (by
      have h1 := hinv.out.1.len
      have h2 := hinv.out.2
      have h := hacc.out.below.size
      unfold maxLen; omega)
    have hkn : (k : Int) ≤ n := by have := hinv.out.2; omega
    by_cases h1 : k < n
    · subst hov
      clear hno
      have e1 : (k : Int) < n := by omega
      have hdb : (d : Int) ≤ 1 := by have := hinv.out.1.owe; omega
      obtain ⟨b1, o1, a, rfl, hb1, hc1, ha⟩ := hx.at (k := k) (by omega)
      have g1 : wr.cell? ⟨b1, o1 + k, none⟩ = some (.int .u64 (a : Int)) := (hacc.out.below.cell (p := ⟨b1, o1 + k, none⟩) hb1).trans hc1
      have da : (a : Int) ≤ 999999999 := by have h := HX.out.getD B9_pos k; rw [ha.out, B9_eq] at h; omega
      by_cases h2 : k < m
      · have e2 : (k : Int) < m := by omega
        obtain ⟨b2, o2, b, rfl, hb2, hc2, hb⟩ := hy.at (k := k) (by omega)
        have g2 : wr.cell? ⟨b2, o2 + k, none⟩ = some (.int .u64 (b : Int)) := (hacc.out.below.cell (p := ⟨b2, o2 + k, none⟩) hb2).trans hc2
        have db : (b : Int) ≤ 999999999 := by have h := HY.out.getD B9_pos k; rw [hb.out, B9_eq] at h; omega
        by_cases h3 : a < d + b
        · have e3 : ((a : Int) < (d : Int) + b) := by omega
          obtain ⟨s, hs⟩ : ∃ s : Nat, (s : Int) = (a : Int) + 1000000000 - ((d : Int) + b) := ⟨(a + 1000000000 - (d + b)), by omega⟩
          have hstep := hiD (hinv.out.1.step HX.out HY.out a b s 1 ha.out hb.out (by omega) (by omega) (by omega))
          have hw1 : (a : Int) + 1000000000 - ((d : Int) + b) = (s : Int) := by omega
          clear hs
          go_wp2_with (at_builtin; refine wpList_append_own _ rfl (.tmp 38) (.tmp 42) 100 rfl w.heap.size 125 i0 (.int .u64 0) 1 8 underlying36 hi hz0 hz1 hz2 rfl (by decide) _ _ _ rfl ((hacc.out.own).alloc _) ⟨_, 0, none⟩ 1 1 [.int .u64 (s : Int)] rfl rfl (cell_one_new _ _ _) (by intro u hu; simp at hu; subst hu; rfl) hlen.out.1 hlen.out.2.1 (by simp; exact hlen.out.2.2) ?_)
          intro v5 w5 hown5 hgrow5 _
          have hnext := hiD (hacc.out.next rfl hown5 hgrow5)
          clear hown5 hgrow5
          go_wp2_with fail
          go_roundw
          case rel => exact ⟨k + 1, _, _, rfl, by go_num, hiD ⟨hstep.out, by omega⟩, hnext⟩
          case measure => simp [intOf]; omega
        · have e3 : ¬ ((a : Int) < (d : Int) + b) := by omega
          obtain ⟨s, hs⟩ : ∃ s : Nat, (s : Int) = (a : Int) - ((d : Int) + b) := ⟨(a - (d + b)), by omega⟩
          have hstep := hiD (hinv.out.1.step HX.out HY.out a b s 0 ha.out hb.out (by omega) (by omega) (by omega))
          have hw1 : (a : Int) - ((d : Int) + b) = (s : Int) := by omega
          clear hs
          go_wp2_with (at_builtin; refine wpList_append_own _ rfl (.tmp 38) (.tmp 42) 100 rfl w.heap.size 125 i0 (.int .u64 0) 1 8 underlying36 hi hz0 hz1 hz2 rfl (by decide) _ _ _ rfl ((hacc.out.own).alloc _) ⟨_, 0, none⟩ 1 1 [.int .u64 (s : Int)] rfl rfl (cell_one_new _ _ _) (by intro u hu; simp at hu; subst hu; rfl) hlen.out.1 hlen.out.2.1 (by simp; exact hlen.out.2.2) ?_)
          intro v5 w5 hown5 hgrow5 _
          have hnext := hiD (hacc.out.next rfl hown5 hgrow5)
          clear hown5 hgrow5
          go_wp2_with fail
          go_roundw
          case rel => exact ⟨k + 1, _, _, rfl, by go_num, hiD ⟨hstep.out, by omega⟩, hnext⟩
          case measure => simp [intOf]; omega
      · have e2 : ¬ (k : Int) < m := by omega
        obtain ⟨b, hb, hb0⟩ : ∃ b, Hid (y.getD k 0 = b) ∧ b = 0 := ⟨_, hiD rfl, by rw [List.getD_eq_getElem?_getD, List.getElem?_eq_none (by rw [hly.out]; omega)]; rfl⟩
        by_cases h3 : a < d
        · have e3 : ((a : Int) < (d : Int)) := by omega
          obtain ⟨s, hs⟩ : ∃ s : Nat, (s : Int) = (a : Int) + 1000000000 - ((d : Int)) := ⟨(a + 1000000000 - (d)), by omega⟩
          have hstep := hiD (hinv.out.1.step HX.out HY.out a b s 1 ha.out hb.out (by omega) (by omega) (by omega))
          clear hb0
          have hw1 : (a : Int) + 1000000000 - ((d : Int)) = (s : Int) := by omega
          clear hs
          go_wp2_with (at_builtin; refine wpList_append_own _ rfl (.tmp 38) (.tmp 42) 100 rfl w.heap.size 125 i0 (.int .u64 0) 1 8 underlying36 hi hz0 hz1 hz2 rfl (by decide) _ _ _ rfl ((hacc.out.own).alloc _) ⟨_, 0, none⟩ 1 1 [.int .u64 (s : Int)] rfl rfl (cell_one_new _ _ _) (by intro u hu; simp at hu; subst hu; rfl) hlen.out.1 hlen.out.2.1 (by simp; exact hlen.out.2.2) ?_)
          intro v5 w5 hown5 hgrow5 _
          have hnext := hiD (hacc.out.next rfl hown5 hgrow5)
          clear hown5 hgrow5
          go_wp2_with fail
          go_roundw
          case rel => exact ⟨k + 1, _, _, rfl, by go_num, hiD ⟨hstep.out, by omega⟩, hnext⟩
          case measure => simp [intOf]; omega
        · have e3 : ¬ ((a : Int) < (d : Int)) := by omega
          obtain ⟨s, hs⟩ : ∃ s : Nat, (s : Int) = (a : Int) - ((d : Int)) := ⟨(a - (d)), by omega⟩
          have hstep := hiD (hinv.out.1.step HX.out HY.out a b s 0 ha.out hb.out (by omega) (by omega) (by omega))
          clear hb0
          have hw1 : (a : Int) - ((d : Int)) = (s : Int) := by omega
          clear hs
          go_wp2_with (at_builtin; refine wpList_append_own _ rfl (.tmp 38) (.tmp 42) 100 rfl w.heap.size 125 i0 (.int .u64 0) 1 8 underlying36 hi hz0 hz1 hz2 rfl (by decide) _ _ _ rfl ((hacc.out.own).alloc _) ⟨_, 0, none⟩ 1 1 [.int .u64 (s : Int)] rfl rfl (cell_one_new _ _ _) (by intro u hu; simp at hu; subst hu; rfl) hlen.out.1 hlen.out.2.1 (by simp; exact hlen.out.2.2) ?_)
          intro v5 w5 hown5 hgrow5 _
          have hnext := hiD (hacc.out.next rfl hown5 hgrow5)
          clear hown5 hgrow5
          go_wp2_with fail
          go_roundw
          case rel => exact ⟨k + 1, _, _, rfl, by go_num, hiD ⟨hstep.out, by omega⟩, hnext⟩
          case measure => simp [intOf]; omega
    · have hkeq : k = n := by omega
      have ht : Hid (Calls Tryz.prog 127 #[.slice po no co] wr (Post9 (val B9 x - val B9 y) w)) := hiD (by
        obtain ⟨p', c', h, hnc, hr, hf⟩ := own_rd hacc.out.own
        rw [hov] at h
        cases h
        have hval := hinv.out.1.done (by rw [hlx.out]; omega) (by rw [hly.out]; omega) Hle.out
        rw [← hval]
        exact (trim_any _ _ _ L wr (by have := hlen.out.1; omega) hnc.1 hr).mono fun _ _ h => trim_post9 hnc hf hr hinv.out.1.dig hacc.out.below h)
      subst hov
      clear hno
      go_wp2_with fail
      refine ht.out.mono ?_
      rintro e w4 ⟨v, rfl, hv⟩
      go_wp2_with fail
      go_ret
      exact ⟨v, rfl, hv⟩
theorem natSub_nat (u v : Value) (a b K : Nat) (w : World) (hK : K ≤ most) (ha : a < B9 ^ K) (hle : b ≤ a) (hu : Nat9 w u a) (hv : Nat9 w v b) : Calls Tryz.prog 149 #[u, v] w (Post9 (a - b) w) := by
  obtain ⟨p, n, c, x, rfl, h1, h2, h3, h4⟩ := hu
  obtain ⟨q, m, d, y, rfl, g1, g2, g3, g4⟩ := hv
  have hn := pow9 h3 h4 ha h2
  have hm : m ≤ n := by
    have := Canon.length_le g3 h3.1 (by rw [h4, g4]; exact hle)
    rw [h2.len, g2.len] at this; exact this
  subst h4 g4
  exact natSub_any p n c x q m d y w (by omega) hm h2 g2 h3.1 g3.1 hle
theorem small_step {q w r r' a X Y B : Nat} (h : q * w + r' = r * B + a) (hX : Y * w + r = X) : (q + B * Y) * w + r' = a + B * X := by
  subst hX; grind
def SmallPost (x d : Nat) (w : World) (e : Ending) (w' : World) : Prop :=
  ∃ v, e = .returned (.tuple #[v, .int .u64 ((x % d : Nat) : Int)]) ∧ Nat9 w' v (x / d) ∧ Below w.heap.size w w' ∧ Fresh w.heap.size v
theorem small_any (p : Option Addr) (n c : Nat) (x : List Nat) (d : Nat) (w : World) (hn0 : n ≤ most) (hx : Rd w p n x) (dx : Dig B9 x) (hd : 0 < d) (hdB : d < B9) :
    Calls Tryz.prog 148 #[.slice p n c, .int .u64 d] w (SmallPost (val B9 x) d w) := by
  obtain ⟨i0, hi, hz0, hz1, hz2⟩ := info_parts info79
  have hn : (n : Int) ≤ 4294967296 := by unfold most at hn0; omega
  go_enter Tryz.func148, Tryz.ntmps148
  go_wp2_with (at_make; refine wpList_make_full _ rfl _ _ 100 rfl w.heap.size 125 i0 (.int .u64 0) 1 underlying36 hi hz0 hz1 _ _ _ _ n rfl rfl (by omega) (by omega) ?b2 ?b3 (Nat.le_refl _) ?_)
  case b2 => rw [hz2]; unfold most at hn0; omega
  case b3 => unfold maxLen; unfold most at hn0; omega
  intro w1 hown hgrow
  have hr1 : Row w1 w.heap.size 125 (List.replicate n 0) := row_of_made hown
  have hb1 : Below w.heap.size w w1 := (Below.refl _ _).grown hgrow (Nat.le_refl _) (fun k h => by cases h)
  clear hown hgrow
  have hlx : Hid (x.length = n) := hiD hx.len
  have hd9 : (d : Int) ≤ 999999999 := by rw [B9_eq] at hdB; omega
  have hd0 : (1 : Int) ≤ d := by omega
  have hdne : ((d : Int) == 0) = false := by simp; omega
  go_wp2_with fail
  go_loopw [7, 8] (fun rv i wr => ∃ (k : Nat) (z : Int) (r : Nat) (L : List Nat), k ≤ n ∧ i = .int .i64 z ∧ z + 1 = k ∧ rv = .int .u64 r ∧ Hid (r < d ∧ L.length = n ∧ Dig B9 (L.drop k) ∧ val B9 (L.drop k) * d + r = val B9 (x.drop k)) ∧ Row wr w.heap.size 125 L ∧ Below w.heap.size w wr) (fun _ i _ => (intOf i + 1).toNat)
  case atStart => exact ⟨n, (n : Int) - 1, 0, _, Nat.le_refl _, rfl, by omega, rfl, hiD ⟨hd, by simp, by rw [List.drop_of_length_le (by simp)]; exact Dig.nil _, by rw [List.drop_of_length_le (by simp), List.drop_of_length_le (by rw [hlx.out]; omega)]; simp [val]⟩, hr1, hb1⟩
  case round =>
    obtain ⟨k, z, r, L, hk, rfl, hz, rfl, hinv, hr, hb⟩ := hrel
    by_cases h0 : k = 0
    · obtain rfl : z = -1 := by omega
      subst h0
      have hfin : Hid (val B9 L = val B9 x / d ∧ r = val B9 x % d ∧ Dig B9 L ∧ L.length = n) := by
        obtain ⟨g1, g2, g3, g4⟩ := hinv.out
        rw [List.drop_zero] at g3 g4
        rw [List.drop_zero] at g4
        refine ⟨?_, ?_, g3, g2⟩
        · rw [← g4, Nat.mul_comm, Nat.mul_add_div hd, Nat.div_eq_of_lt g1]; rfl
        · rw [← g4, Nat.mul_comm, Nat.mul_add_mod, Nat.mod_eq_of_lt g1]
      have hrd := hr.rd0 n hfin.out.2.2.2.symm
      have ht : Hid (Calls Tryz.prog 127 #[.slice (some ⟨w.heap.size, 0, none⟩) n n] wr (Post9 (val B9 L) w)) := hiD ((trim_any _ n n L wr (by unfold maxLen; omega) (Nat.le_refl _) hrd).mono fun _ _ h => trim_post9 ⟨Nat.le_refl _, fun h => by cases h⟩ (fun b o h => by cases h; exact Nat.le_refl _) hrd hfin.out.2.2.1 hb h)
      clear hz hrd
      go_wp2_with fail
      refine ht.out.mono ?_
      rintro e w4 ⟨v, rfl, hv, hb4⟩
      rw [hfin.out.1] at hv
      rw [hfin.out.2.1]
      go_wp2_with fail
      go_ret2
      exact ⟨v, rfl, hv, hb4⟩
    · obtain ⟨j, rfl⟩ : ∃ j : Nat, z = j := ⟨z.toNat, by omega⟩
      obtain rfl : k = j + 1 := by omega
      clear hz h0
      obtain ⟨b1, o1, a, rfl, hb1', hc1, ha⟩ := hx.at (k := j) (by omega)
      have hc : wr.cell? ⟨b1, o1 + j, none⟩ = some (.int .u64 (a : Int)) := (hb.cell (p := ⟨b1, o1 + j, none⟩) hb1').trans hc1
      have hf := hr.free j
      have hcell := hr.cell j (by rw [hinv.out.2.1]; omega)
      have da : (a : Int) ≤ 999999999 := by have h := dx.getD B9_pos j; rw [ha.out, B9_eq] at h; omega
      have hrb : (r : Int) ≤ 999999998 := by have := hinv.out.1; omega
      obtain ⟨q, hq⟩ : ∃ q : Nat, Hid (q = (r * 1000000000 + a) / d) := ⟨_, hiD rfl⟩
      obtain ⟨r', hr'⟩ : ∃ r' : Nat, Hid (r' = (r * 1000000000 + a) % d) := ⟨_, hiD rfl⟩
      have he : q * d + r' = r * B9 + a := by rw [hq.out, hr'.out, B9_eq, Nat.mul_comm]; exact Nat.div_add_mod _ _
      have hlt : r' < d := by rw [hr'.out]; exact Nat.mod_lt _ hd
      have hqB : q < B9 := by
        apply Nat.lt_of_mul_lt_mul_right (a := d)
        have h1 := hinv.out.1
        have h2 : (r + 1) * B9 ≤ d * B9 := Nat.mul_le_mul_right _ h1
        have h3 : (r + 1) * B9 = r * B9 + B9 := by grind
        have h4 : B9 * d = d * B9 := Nat.mul_comm _ _
        have h5 := B9_eq
        omega
      have hw1 : ((r : Int) * 1000000000 + a) / d = (q : Int) := by rw [hq.out, Int.natCast_ediv, Int.natCast_add, Int.natCast_mul]; rfl
      have hw2 : ((r : Int) * 1000000000 + a) % d = (r' : Int) := by rw [hr'.out, Int.natCast_emod, Int.natCast_add, Int.natCast_mul]; rfl
      have hj : (j : Int) < n := by omega
      have hinv' : Hid (r' < d ∧ (L.set j q).length = n ∧ Dig B9 ((L.set j q).drop j) ∧ val B9 ((L.set j q).drop j) * d + r' = val B9 (x.drop j)) := by
        obtain ⟨g1, g2, g3, g4⟩ := hinv.out
        have hjl : j < (L.set j q).length := by rw [List.length_set]; omega
        have hd1 : (L.set j q).drop (j + 1) = L.drop (j + 1) := by rw [List.drop_set_of_lt (by omega)]
        have hgj : (L.set j q).getD j 0 = q := by rw [List.getD_eq_getElem?_getD, List.getElem?_set_self (by omega)]; rfl
        refine ⟨hlt, by rw [List.length_set]; exact g2, ?_, ?_⟩
        · rw [List.drop_eq_getElem_cons hjl, hd1]
          have : (L.set j q)[j] = q := by simp
          rw [this]
          exact (Dig.one hqB).append g3
        · rw [val_drop_D, hd1, hgj, val_drop_D B9 x j, ha.out]
          exact small_step he g4
      clear he hlt hqB hc1
      go_wp2_with fail
      go_roundw
      case rel => exact ⟨j, (j : Int) - 1, r', _, by omega, rfl, by omega, by rw [hw2], hinv', hr.set _ _, hb.setCell (Nat.le_refl _) _⟩
      case measure => simp [intOf]
structure MulIn9 (L0 : List Nat) (i x : Nat) (y : List Nat) (k c : Nat) (L : List Nat) : Prop where
  put : Put L0 i k L
  dig : Dig B9 L
  car : c < B9
  eq : val B9 (seg L i k) + B9 ^ k * c = val B9 (seg L0 i k) + val B9 (y.take k) * x
theorem MulIn9.start {L0 : List Nat} (h : Dig B9 L0) (i x : Nat) (y : List Nat) : MulIn9 L0 i x y 0 0 L0 :=
  ⟨Put.refl _ _, h, B9_pos, by simp [seg_zero, val]⟩
theorem MulIn9.step {L0 L : List Nat} {i x k c : Nat} {y : List Nat} (h : MulIn9 L0 i x y k c L) (hk : i + k < L0.length) (a b : Nat) (ha : L.getD (i + k) 0 = a) (hb : y.getD k 0 = b) (dx : x < B9) (db : b < B9) :
    MulIn9 L0 i x y (k + 1) ((a + x * b + c) / B9) (L.set (i + k) ((a + x * b + c) % B9)) := by
  have hlen := h.put.length
  have ha9 : a < B9 := by rw [← ha]; exact h.dig.getD B9_pos _
  have ha0 : L0.getD (i + k) 0 = a := by rw [← h.put.getD (i + k) (Nat.le_refl _)]; exact ha
  have hm : (a + x * b + c) % B9 + B9 * ((a + x * b + c) / B9) = a + b * x + c := by
    rw [Nat.mod_add_div, Nat.mul_comm x b]
  refine ⟨h.put.set _, h.dig.set _ _ (Nat.mod_lt _ B9_pos), ?_, ?_⟩
  · rw [Nat.div_lt_iff_lt_mul B9_pos]
    have h1 : x * b ≤ (B9 - 1) * (B9 - 1) := Nat.mul_le_mul (by omega) (by omega)
    have h2 : (B9 - 1) * (B9 - 1) + 2 * (B9 - 1) < B9 * B9 := by rw [B9_eq]; decide
    have h3 := h.car
    omega
  · rw [h.put.seg_set (by omega), val_snoc, seg_length _ _ _ (by omega), seg_succ L0 i k hk, val_snoc, seg_length _ _ _ (by omega), ha0, val_take_succD, hb, Nat.pow_succ]
    exact addmul_step h.eq hm
structure MulInv9 (x y : List Nat) (i : Nat) (L : List Nat) : Prop where
  len : L.length = x.length + y.length
  dig : Dig B9 L
  eq : val B9 (seg L 0 (y.length + i)) = val B9 y * val B9 (x.take i)
  zero : ∀ j, y.length + i ≤ j → j < x.length + y.length → L.getD j 0 = 0
theorem MulInv9.start (x y : List Nat) : MulInv9 x y 0 (List.replicate (x.length + y.length) 0) :=
  ⟨by simp, Dig.zeros B9_pos _, by simp [seg, val, val_zeros], fun j _ h => by simp [List.getD_eq_getElem?_getD, h]⟩
theorem seg_split (M : List Nat) (a b : Nat) : seg M 0 (a + b) = seg M 0 a ++ seg M a b := by
  simp only [seg, List.drop_zero]; rw [List.take_add]
theorem MulInv9.step {x y : List Nat} {i c : Nat} {L L' : List Nat} (h : MulInv9 x y i L) (hi : i < x.length) (a : Nat) (ha : x.getD i 0 = a) (hin : MulIn9 L i a y y.length c L') :
    MulInv9 x y (i + 1) (L'.set (i + y.length) c) := by
  have hput2 := hin.put.set c
  have hlen : (L'.set (i + y.length) c).length = L.length := hput2.length
  have hL := h.len
  have h1 : seg (L'.set (i + y.length) c) 0 (y.length + (i + 1)) = seg L 0 i ++ (seg L' i y.length ++ [c]) := by
    rw [show y.length + (i + 1) = i + (y.length + 1) from by omega, seg_split, hput2.before_seg 0 i (by omega), hin.put.seg_set (by omega)]
  have h2 : seg L 0 (y.length + i) = seg L 0 i ++ seg L i y.length := by rw [show y.length + i = i + y.length from by omega, seg_split]
  have hl0 : (seg L 0 i).length = i := seg_length _ _ _ (by omega)
  have hl1 : (seg L' i y.length).length = y.length := seg_length _ _ _ (by rw [hin.put.length]; omega)
  refine ⟨by rw [hlen]; exact hL, hin.dig.set _ _ hin.car, ?_, ?_⟩
  · have h3 := h.eq
    have h4 := hin.eq
    rw [List.take_of_length_le (Nat.le_refl _)] at h4
    rw [h1, val_append, val_snoc, hl0, hl1, h4, val_take_succD, ha]
    rw [h2, val_append, hl0] at h3
    rw [Nat.mul_add, Nat.mul_add, ← h3]
    grind
  · intro j h3 h4
    rw [hput2.getD j (by omega)]; exact h.zero j (by omega) h4
theorem MulInv9.done {x y : List Nat} {L : List Nat} (h : MulInv9 x y x.length L) : val B9 L = val B9 x * val B9 y := by
  have h1 := h.eq
  rw [seg_all L _ (by rw [h.len]; omega), List.take_of_length_le (Nat.le_refl _)] at h1
  rw [h1, Nat.mul_comm]
theorem natMul_any (p : Option Addr) (n c0 : Nat) (x : List Nat) (q : Option Addr) (m d0 : Nat) (y : List Nat) (w : World) (hn0 : n ≤ most) (hm0 : m ≤ most) (hx : Rd w p n x) (hy : Rd w q m y) (dx : Dig B9 x) (dy : Dig B9 y) :
    Calls Tryz.prog 108 #[.slice p n c0, .slice q m d0] w (Post9 (val B9 x * val B9 y) w) := by
  obtain ⟨i0, hi, hz0, hz1, hz2⟩ := info_parts info79
  have hn : (n : Int) ≤ 4294967296 := by unfold most at hn0; omega
  have hm : (m : Int) ≤ 4294967296 := by unfold most at hm0; omega
  have HX := hiD dx
  have HY := hiD dy
  have hlx : Hid (x.length = n) := hiD hx.len
  have hly : Hid (y.length = m) := hiD hy.len
  clear dx dy
  go_enter Tryz.func108, Tryz.ntmps108
  go_wp2_with (at_make; refine wpList_make_full _ rfl _ _ 100 rfl w.heap.size 125 i0 (.int .u64 0) 1 underlying36 hi hz0 hz1 _ _ _ _ (n + m) rfl rfl (by omega) (by omega) ?b2 ?b3 (Nat.le_refl _) ?_)
  case b2 => rw [hz2]; omega
  case b3 => unfold maxLen; omega
  intro w1 hown hgrow
  have hr1 : Row w1 w.heap.size 125 (List.replicate (n + m) 0) := row_of_made hown
  have hb1 : Below w.heap.size w w1 := (Below.refl _ _).grown hgrow (Nat.le_refl _) (fun k h => by cases h)
  have hst : Hid (MulInv9 x y 0 (List.replicate (n + m) 0)) := hiD (by have := MulInv9.start x y; rw [hlx.out, hly.out] at this; exact this)
  clear hown hgrow
  go_wp2_with fail
  go_loopw [20] (fun iv wr => ∃ (i : Nat) (L : List Nat), iv = .int .i64 i ∧ i ≤ n ∧ Hid (MulInv9 x y i L) ∧ Row wr w.heap.size 125 L ∧ Below w.heap.size w wr) (fun iv _ => n - (intOf iv).toNat)
  case atStart => exact ⟨0, _, rfl, Nat.zero_le _, hst, hr1, hb1⟩
  case round =>
    obtain ⟨i, L, rfl, hin, hinv, hr, hb⟩ := hrel
    by_cases h1 : i < n
    · have e1 : (i : Int) < n := by omega
      obtain ⟨b1, o1, a, rfl, hb1', hc1, ha⟩ := hx.at (k := i) (by omega)
      have g1 : wr.cell? ⟨b1, o1 + i, none⟩ = some (.int .u64 (a : Int)) := (hb.cell (p := ⟨b1, o1 + i, none⟩) hb1').trans hc1
      have da : a < B9 := by rw [← ha.out]; exact HX.out.getD B9_pos i
      have da9 : (a : Int) ≤ 999999999 := by rw [B9_eq] at da; omega
      have Da := hiD da
      have hst2 : Hid (MulIn9 L i a y 0 0 L) := hiD (MulIn9.start hinv.out.dig i a y)
      clear da hc1
      go_wp2_with fail
      go_loopw [8, 27] (fun cv kv w2 => ∃ (k c : Nat) (L' : List Nat), cv = .int .u64 c ∧ kv = .int .i64 k ∧ k ≤ m ∧ Hid (MulIn9 L i a y k c L') ∧ Row w2 w.heap.size 125 L' ∧ Below w.heap.size w w2) (fun _ kv _ => m - (intOf kv).toNat)
      case atStart => exact ⟨0, 0, L, rfl, rfl, Nat.zero_le _, hst2, hr, hb⟩
      case round =>
        obtain ⟨k, c, L', rfl, rfl, hkm, hin2, hr2, hb2⟩ := hrel
        have hl' : Hid (L'.length = n + m) := hiD (by rw [hin2.out.put.length, hinv.out.len, hlx.out, hly.out])
        have hcb : (c : Int) ≤ 999999999 := by have := hin2.out.car; rw [B9_eq] at this; omega
        by_cases h2 : k < m
        · have e2 : (k : Int) < m := by omega
          obtain ⟨b3, o3, b, rfl, hb3', hc3, hbd⟩ := hy.at (k := k) (by omega)
          have g2 : wr.cell? ⟨b3, o3 + k, none⟩ = some (.int .u64 (b : Int)) := (hb2.cell (p := ⟨b3, o3 + k, none⟩) hb3').trans hc3
          have db : b < B9 := by rw [← hbd.out]; exact HY.out.getD B9_pos k
          have db9 : (b : Int) ≤ 999999999 := by rw [B9_eq] at db; omega
          obtain ⟨z, hz⟩ : ∃ z, Hid (L'.getD (i + k) 0 = z) := ⟨_, hiD rfl⟩
          have hcell := hr2.cell (i + k) (by rw [hl'.out]; omega)
          rw [hz.out] at hcell
          have hfree := hr2.free (i + k)
          have hz9 : (z : Int) ≤ 999999999 := by have := hin2.out.dig.getD B9_pos (i + k); rw [hz.out, B9_eq] at this; omega
          obtain ⟨ab, habn⟩ : ∃ ab : Nat, Hid (ab = a * b) := ⟨_, hiD rfl⟩
          have hab : (a : Int) * b = (ab : Int) := by rw [habn.out]; simp
          have hab2 : (ab : Int) ≤ 999999998000000001 := by
            have h5 : a * b ≤ 999999999 * 999999999 := Nat.mul_le_mul (by omega) (by omega)
            rw [habn.out]; omega
          have hstep := hiD (hin2.out.step (by rw [hinv.out.len, hlx.out, hly.out]; omega) z b hz.out hbd.out Da.out db)
          rw [← habn.out] at hstep
          obtain ⟨s1, hs1⟩ : ∃ s1 : Nat, Hid (s1 = (z + ab + c) % B9) := ⟨_, hiD rfl⟩
          obtain ⟨s2, hs2⟩ : ∃ s2 : Nat, Hid (s2 = (z + ab + c) / B9) := ⟨_, hiD rfl⟩
          rw [← hs1.out, ← hs2.out] at hstep
          have hw1 : ((z : Int) + ab + c) % 1000000000 = (s1 : Int) := by rw [hs1.out, B9_eq]; omega
          have hw2 : ((z : Int) + ab + c) / 1000000000 = (s2 : Int) := by rw [hs2.out, B9_eq]; omega
          clear db hc3
          go_wp2_with fail
          go_roundw
          case rel => exact ⟨k + 1, s2, _, by rw [hw2], by go_num, by omega, hstep, hr2.set _ _, hb2.setCell (Nat.le_refl _) _⟩
          case measure => simp [intOf]; omega
        · obtain rfl : k = m := by omega
          have hcell := hr2.cell (i + k) (by rw [hl'.out]; omega)
          have hfree := hr2.free (i + k)
          have hstep := hiD (hinv.out.step (by rw [hlx.out]; omega) a ha.out (by rw [hly.out]; exact hin2.out))
          rw [hly.out] at hstep
          go_wp2_with fail
          go_roundw
          case rel => exact ⟨i + 1, _, by go_num, by omega, hstep, hr2.set _ _, hb2.setCell (Nat.le_refl _) _⟩
          case measure => simp [intOf]; omega
    · obtain rfl : i = n := by omega
      have hrd := hr.rd0 (i + m) (by rw [hinv.out.len, hlx.out, hly.out])
      have ht : Hid (Calls Tryz.prog 127 #[.slice (some ⟨w.heap.size, 0, none⟩) (i + m) (i + m)] wr (Post9 (val B9 x * val B9 y) w)) := hiD (by
        have hd := hinv.out
        rw [← hlx.out] at hd
        rw [← hd.done]
        exact (trim_any _ _ _ L wr (by unfold maxLen; omega) (Nat.le_refl _) hrd).mono fun _ _ h => trim_post9 ⟨Nat.le_refl _, fun h => by cases h⟩ (fun b o h => by cases h; exact Nat.le_refl _) hrd hinv.out.dig hb h)
      clear hrd
      go_wp2_with fail
      refine ht.out.mono ?_
      rintro e w4 ⟨v, rfl, hv⟩
      go_wp2_with fail
      go_ret
      exact ⟨v, rfl, hv⟩
theorem natMul_nat (u v : Value) (a b K L : Nat) (w : World) (hK : K ≤ most) (hL : L ≤ most) (ha : a < B9 ^ K) (hb : b < B9 ^ L) (hu : Nat9 w u a) (hv : Nat9 w v b) : Calls Tryz.prog 108 #[u, v] w (Post9 (a * b) w) := by
  obtain ⟨p, n, c, x, rfl, h1, h2, h3, h4⟩ := hu
  obtain ⟨q, m, d, y, rfl, g1, g2, g3, g4⟩ := hv
  have hn := pow9 h3 h4 ha h2
  have hm := pow9 g3 g4 hb g2
  rw [← h4, ← g4]
  exact natMul_any p n c x q m d y w (by omega) (by omega) h2 g2 h3.1 g3.1
def Apart (g : Nat) (v : Value) : Prop := ∀ b o n c, v = .slice (some ⟨b, o, none⟩) n c → b ≠ g
theorem Nat9.set {w : World} {v : Value} {x g : Nat} (h : Nat9 w v x) (ha : Apart g v) (k : Nat) (u : Value) : Nat9 (w.setCell ⟨g, k, none⟩ u) v x := by
  obtain ⟨p, n, c, l, rfl, h2, h3, h4⟩ := h
  exact ⟨p, n, c, l, rfl, h2, ((Only.refl g w).setCell k u).rd h3 (.inr fun b o hp => ha b o n c (by rw [hp])), h4⟩
theorem Nat9.apart {w : World} {v : Value} {x g : Nat} (h : Nat9 w v x) (hg : w.heap.size ≤ g) (hx : x ≠ 0) : Apart g v := by
  obtain ⟨p, n, c, l, rfl, h2, h3, h4, h5⟩ := h
  intro b o n' c' e
  cases e
  have hn : 0 < n := by
    apply Nat.pos_of_ne_zero; rintro rfl
    have := h3.len
    rw [List.eq_nil_of_length_eq_zero this] at h5
    exact hx h5.symm
  obtain ⟨b', o', e', hb, _⟩ := h3.opened hn
  cases e'
  omega
theorem Fresh.apart {g B : Nat} {v : Value} (h : Fresh B v) (hg : g < B) : Apart g v := fun b o n c e => by have := h b o n c e; omega
theorem Nat9.pos {w : World} {v : Value} {x : Nat} (h : Nat9 w v x) (hx : x ≠ 0) : ∃ b o k c l, v = .slice (some ⟨b, o, none⟩) (k + 1) c ∧ k + 1 ≤ c ∧ Rd w (some ⟨b, o, none⟩) (k + 1) l ∧ Canon B9 l ∧ val B9 l = x ∧ b < w.heap.size := by
  obtain ⟨p, n, c, l, rfl, h2, h3, h4, h5⟩ := h
  have hn : 0 < n := by
    apply Nat.pos_of_ne_zero; rintro rfl
    have := h3.len
    rw [List.eq_nil_of_length_eq_zero this] at h5
    exact hx h5.symm
  obtain ⟨k, rfl⟩ : ∃ k, n = k + 1 := ⟨n - 1, by omega⟩
  obtain ⟨b', o', e', hb, _⟩ := h3.opened hn
  cases e'
  exact ⟨b', o', k, c, l, rfl, h2.1, h3, h4, h5, hb⟩
theorem heap_new9 (W : World) (o : Obj) : (W.alloc o).heap[W.heap.size]? = some o := by show (W.heap.push _)[_]? = _; simp
def DivPost9 (a b : Nat) (w : World) (e : Ending) (w' : World) : Prop :=
  ∃ v r, e = .returned (.tuple #[v, r]) ∧ Nat9 w' v (a / b) ∧ Nat9 w' r (a % b) ∧ Below w.heap.size w w'
theorem Rd.news {w w' : World} {p : Option Addr} {n : Nat} {l : List Nat} (h : Rd w p n l) (hb : Below w.heap.size w w') : ∀ ad, p = some ad → ∀ j v, (u64s l)[j]? = some v → w'.cell? (ad.add j) = some v := by
  intro ad hp j v hv
  have hlt : j < (u64s l).length := (List.getElem?_eq_some_iff.1 hv).1
  obtain ⟨ad', e, hc⟩ := (h.below hb).cells (by omega)
  rw [hp] at e; cases e
  exact hc j v hv
theorem natDiv_lt (p : Option Addr) (n c0 : Nat) (x : List Nat) (v : Value) (a b K : Nat) (w : World) (hK : K ≤ 1000000) (ha : a < B9 ^ K) (hb : b < B9 ^ K) (hlt : a < b) (hnc : n ≤ c0 ∧ (p = none → c0 = 0)) (hx : Rd w p n x) (cx : Canon B9 x) (hxa : val B9 x = a) (hv : Nat9 w v b) :
    Calls Tryz.prog 126 #[.slice p n c0, v] w (DivPost9 a b w) := by
  obtain ⟨i0, hi, hz0, hz1, hz2⟩ := info_parts info79
  have hcmp : Hid (∀ W, Below w.heap.size w W → Calls Tryz.prog 147 #[.slice p n c0, v] W fun e w' => e = .returned (.int .i64 (-1)) ∧ Below w.heap.size w w') := hiD fun W hW => by
    have hx2 : Nat9 W (.slice p n c0) a := Nat9.below ⟨p, n, c0, x, rfl, hnc, hx, cx, hxa⟩ hW
    have h := natCmp_nat (.slice p n c0) v a b K W (by unfold most; omega) ha hb hx2 (hv.below hW)
    refine h.mono fun e w' h => ?_
    obtain ⟨h1, t, h2⟩ := h
    refine ⟨by rw [h1]; unfold cmp3; rw [if_pos hlt], ?_⟩
    rw [← h2]; exact hW.trans (below_drewN _ _ _)
  have hnp := pow9 cx hxa ha hx
  have hn1 : Hid (n ≤ 1000000) := hiD (by omega)
  obtain ⟨b1, o1, k, c1, l, rfl, hk1, -, -, -, -⟩ := hv.pos (by omega)
  have hk0 : ((((k + 1 : Nat) : Int)) == 0) = false := by simp; omega
  have hfin : Hid (∀ W v, W.ownsRow w.heap.size 125 1 v n (u64s x) → Below w.heap.size w W → DivPost9 a b w (.returned (.tuple #[.slice none 0 0, v])) W) := hiD fun W v hown hW => by
    have hl := hx.len
    rw [← hl] at hown
    obtain ⟨v', h1, h2, h3, h4⟩ := (Acc.mk hown hW).nat cx
    cases h1
    refine ⟨_, v, rfl, ?_, ?_, hW⟩
    · rw [Nat.div_eq_of_lt hlt]; exact Nat9.zero _
    · rw [Nat.mod_eq_of_lt hlt, ← hxa]; exact h2
  have hxl := hiD hx.len
  have Hx := hiD hx
  have Hpc := hiD hnc.2
  clear ha hb hlt hv cx hxa hnp hnc
  go_enter Tryz.func126, Tryz.ntmps126
  go_wp2_with fail
  refine (hcmp.out _ (Below.refl _ _)).mono ?_
  rintro e w1 ⟨rfl, hb1⟩
  have Hb1 := hiD hb1
  clear hb1
  have hown0 : Hid ((w1.alloc (.cells #[] 125)).ownsRow w.heap.size 125 1 (.slice (some ⟨w1.heap.size, 0, none⟩) 0 0) 0 (u64s [])) := hiD ⟨rfl, .inr ⟨w1.heap.size, 0, #[], rfl, Hb1.out.size, heap_new9 _ _, Nat.le_refl _, Nat.zero_le _, rfl, rfl⟩⟩
  cases p with
  | none =>
    obtain rfl : c0 = 0 := Hpc.out rfl
    obtain rfl : n = 0 := by
      rcases Hx.out.cell with h | ⟨_, _, h, _⟩
      · exact h
      · cases h
    have hx0 : x = [] := List.eq_nil_of_length_eq_zero hxl.out
    have hend := hiD (hfin.out _ _ (by rw [hx0]; exact hown0.out) (Hb1.out.alloc Hb1.out.size _))
    go_wp2_with fail
    go_ret2
    exact hend.out
  | some ad =>
    have hlen : Hid (0 + n ≤ maxLen ∧ (0 + n) * 8 ≤ 140737488355328 ∧ w.heap.size ≤ (w1.alloc (.cells #[] 125)).heap.size) := hiD (by
      have := hn1.out
      have h := Hb1.out.size
      refine ⟨by unfold maxLen; omega, by omega, ?_⟩
      simp; omega)
    have hnews := hiD (Hx.out.news (Hb1.out.alloc Hb1.out.size (.cells #[] 125)) ad rfl)
    have hul : Hid ((u64s x).length = n * 1) := hiD (by rw [u64s_length, hxl.out, Nat.mul_one])
    go_wp2_with (at_builtin; refine wpList_append_own _ rfl (.tmp 26) (.tmp 27) 100 rfl w.heap.size 125 i0 (.int .u64 0) 1 8 underlying36 hi hz0 hz1 hz2 rfl (by decide) _ _ _ rfl hown0.out ad n _ (u64s x) rfl hul.out hnews.out (u64s_one x) hlen.out.1 hlen.out.2.1 hlen.out.2.2 ?_)
    intro v5 w5 hown5 hgrow5 _
    have hend := hiD (hfin.out w5 v5 (by simpa [u64s] using hown5) ((Hb1.out.alloc Hb1.out.size _).grown hgrow5 (by have := Hb1.out.size; simp; omega) (fun k hk => by cases hk; exact Hb1.out.size)))
    clear hown5 hgrow5
    go_wp2_with fail
    go_ret2
    exact hend.out
theorem natDiv_one (p : Option Addr) (n c0 : Nat) (x : List Nat) (q : Option Addr) (m0 d0 : Nat) (y : List Nat) (a b K : Nat) (w : World) (hK : K ≤ 1000000) (ha : a < B9 ^ K) (hb0 : 0 < b) (hb : b < B9) (hle : b ≤ a) (hnc : n ≤ c0 ∧ (p = none → c0 = 0)) (hx : Rd w p n x) (cx : Canon B9 x) (hxa : val B9 x = a)
    (hmc : m0 ≤ d0 ∧ (q = none → d0 = 0)) (hy : Rd w q m0 y) (cy : Canon B9 y) (hyb : val B9 y = b) :
    Calls Tryz.prog 126 #[.slice p n c0, .slice q m0 d0] w (DivPost9 a b w) := by
  have hm1 : m0 = 1 := by
    have h1 := pow9 cy hyb (K := 1) (by rw [Nat.pow_one]; exact hb) hy
    have h2 : m0 ≠ 0 := by
      rintro rfl
      have := hy.len
      rw [List.eq_nil_of_length_eq_zero this] at hyb
      simp [val] at hyb; omega
    omega
  subst hm1
  have hyl := hy.len
  obtain ⟨bd, rfl⟩ : ∃ z, y = [z] := by
    match y, hyl with
    | [z], _ => exact ⟨z, rfl⟩
  have hbd : bd = b := by simpa [val] using hyb
  subst hbd
  obtain ⟨b1, o1, d, rfl, hb1, hc1, hd⟩ := hy.at (k := 0) (by omega)
  have hdb : d = bd := by rw [← hd.out]; rfl
  subst hdb
  have hcmp : Hid (∀ W, Below w.heap.size w W → Calls Tryz.prog 147 #[.slice p n c0, .slice (some ⟨b1, o1, none⟩) 1 d0] W fun e w' => ∃ z : Int, 0 ≤ z ∧ e = .returned (.int .i64 z) ∧ Below w.heap.size w w') := hiD fun W hW => by
    have hx2 : Nat9 W (.slice p n c0) a := Nat9.below ⟨p, n, c0, x, rfl, hnc, hx, cx, hxa⟩ hW
    have h := natCmp_nat (.slice p n c0) (.slice (some ⟨b1, o1, none⟩) 1 d0) a d (K + 1) W (by unfold most; omega) (by rw [Nat.pow_succ, B9_eq] at *; omega) (by
      have : B9 ^ 1 ≤ B9 ^ (K + 1) := Nat.pow_le_pow_right B9_pos (by omega)
      rw [Nat.pow_one] at this; omega) hx2 (Nat9.below ⟨_, 1, d0, [d], rfl, hmc, hy, cy, hyb⟩ hW)
    refine h.mono fun e w' h => ?_
    obtain ⟨h1, t, h2⟩ := h
    refine ⟨cmp3 a d, ?_, h1, ?_⟩
    · unfold cmp3; rw [if_neg (by omega)]; split <;> omega
    · rw [← h2]; exact hW.trans (below_drewN _ _ _)
  have hsm : Hid (∀ W, Below w.heap.size w W → Calls Tryz.prog 148 #[.slice p n c0, .int .u64 (d : Int)] W (SmallPost a d W)) := hiD fun W hW => by
    have h := small_any p n c0 x d W (by have := pow9 cx hxa ha hx; unfold most; omega) (hx.below hW) cx.1 hb0 hb
    rw [hxa] at h; exact h
  have hno : Hid (∀ W, Calls Tryz.prog 109 #[.int .u64 ((a % d : Nat) : Int)] W (Post9 (a % d) W)) := hiD fun W => natOf_any _ W (by
    have := Nat.mod_lt a hb0
    rw [B9_eq] at hb; omega)
  have hcell : Hid (∀ W, Below w.heap.size w W → W.cell? ⟨b1, o1 + 0, none⟩ = some (.int .u64 (d : Int))) := hiD fun W hW => (hW.cell (p := ⟨b1, o1 + 0, none⟩) hb1).trans hc1
  obtain ⟨rr, hrr⟩ : ∃ rr, Hid (rr = a % d) := ⟨_, hiD rfl⟩
  rw [← hrr.out] at hno
  clear ha hb0 hb hle hnc hx cx hxa hmc hy cy hyb hyl hb1 hc1
  go_enter Tryz.func126, Tryz.ntmps126
  go_wp2_with fail
  refine (hcmp.out _ (Below.refl _ _)).mono ?_
  rintro e w1 ⟨z, hz, rfl, hb1⟩
  have hzl : decide (z < 0) = false := by simp; exact hz
  have Hb1 := hiD hb1
  have hc := hcell.out w1 hb1
  rw [Nat.add_zero] at hc
  have hs1 := hsm.out w1 hb1
  have Hs1 := hiD hs1
  clear hb1 hs1 hz
  go_wp2_with fail
  refine Hs1.out.mono ?_
  rintro e w2 ⟨v, rfl, hv, hb2, _⟩
  obtain ⟨pv, nv, cv, rfl⟩ := hv.slice
  rw [← hrr.out]
  have Hv := hiD hv
  have Hb2 := hiD (Hb1.out.trans (hb2.mono Hb1.out.size))
  clear hv hb2
  go_wp2_with fail
  refine (hno.out _).mono ?_
  rintro e w3 ⟨v3, rfl, hv3, hb3, _⟩
  obtain ⟨pv3, nv3, cv3, rfl⟩ := hv3.slice
  have hend : Hid (DivPost9 a d w (.returned (.tuple #[.slice pv nv cv, .slice pv3 nv3 cv3])) w3) := hiD ⟨_, _, rfl, Hv.out.below hb3, by rw [← hrr.out]; exact hv3, Hb2.out.trans (hb3.mono Hb2.out.size)⟩
  clear hv3 hb3
  go_wp2_with fail
  go_ret2
  exact hend.out
theorem natDiv_small (u v : Value) (a b K : Nat) (w : World) (hK : K ≤ 1000000) (hK1 : 1 ≤ K) (ha : a < B9 ^ K) (hb0 : 0 < b) (hb : b < B9) (hu : Nat9 w u a) (hv : Nat9 w v b) :
    Calls Tryz.prog 126 #[u, v] w (DivPost9 a b w) := by
  obtain ⟨p, n, c, x, rfl, h1, h2, h3, h4⟩ := hu
  by_cases h : a < b
  · exact natDiv_lt p n c x v a b K w hK ha (by
      have : B9 ^ 1 ≤ B9 ^ K := Nat.pow_le_pow_right B9_pos hK1
      rw [Nat.pow_one] at this; omega) h h1 h2 h3 h4 hv
  · obtain ⟨q, m, d, y, rfl, g1, g2, g3, g4⟩ := hv
    exact natDiv_one p n c x q m d y a b K w hK ha hb0 hb (by omega) h1 h2 h3 h4 g1 g2 g3 g4
end Go.Proofs.YtaldangjhdddoaaGreatDoor
set_option maxHeartbeats 12800000
set_option maxRecDepth 100000
namespace Go.Proofs.YtaldangjhdddoaaGreatDoor
open Go.RowKit Big
theorem made_zeros (n : Nat) : (madeCells #[Value.int .u64 0] n).toList = u64s (List.replicate n 0) := by
  have e2 : madeCells #[Value.int .u64 0] n = (u64s (List.replicate n 0)).toArray := by
    apply Array.ext
    · simp [madeCells, u64s]
    · intro i h1 h2
      simp [madeCells, u64s, Nat.mod_one]
  rw [e2]
theorem pow9_mono {a K L : Nat} (h : a < B9 ^ K) (hKL : K ≤ L) : a < B9 ^ L :=
  Nat.lt_of_lt_of_le h (Nat.pow_le_pow_right B9_pos hKL)
theorem pow9_mul {a b K L : Nat} (ha : a < B9 ^ K) (hb : b < B9 ^ L) : a * b < B9 ^ (K + L) := by
  rw [Nat.pow_add]
  exact Nat.mul_lt_mul'' ha hb
theorem trim_post9' {p : Option Addr} {n c : Nat} {l : List Nat} {w w' : World} {e : Ending} (hnc : n ≤ c ∧ (p = none → c = 0)) (hl : Rd w p n l) (hd : Dig B9 l) (h : Trim p n c l w e w') : ∃ v, e = .returned v ∧ Nat9 w' v (val B9 l) ∧ Below w.heap.size w w' := by
  obtain ⟨k, hk, rfl, rfl, hz, h0⟩ := h
  refine ⟨_, rfl, ⟨p, k, c, l.take k, rfl, ⟨by omega, hnc.2⟩, hl.take k hk, ⟨hd.take k, ?_⟩, ?_⟩, Below.refl _ _⟩
  · rcases h0 with rfl | h0
    · simp
    · obtain ⟨j, rfl⟩ : ∃ j, k = j + 1 := ⟨k - 1, by
        have : k ≠ 0 := by
          rintro rfl
          by_cases h1 : 0 < n
          · exact h0 (hz 0 (by omega) h1)
          · apply h0; rw [List.getD_eq_getElem?_getD, List.getElem?_eq_none (by rw [hl.len]; omega)]; rfl
        omega⟩
      rw [List.getLast?_eq_getElem?, List.length_take, Nat.min_eq_left (by rw [hl.len]; exact hk), Nat.add_sub_cancel, List.getElem?_take_of_lt (by omega)]
      rw [Nat.add_sub_cancel, List.getD_eq_getElem?_getD] at h0
      intro e1; rw [e1] at h0; exact h0 rfl
  · rw [val_split B9 l k (by rw [hl.len]; exact hk), drop_zeros9 l k (fun j h1 h2 => hz j h1 (by rw [hl.len] at h2; exact h2))]
    omega
structure DivAt (w0 wr : World) (g A V M k R : Nat) (L : List Nat) (rv : Value) : Prop where
  rest : Nat9 wr rv R
  apart : Apart g rv
  row : Row wr g 125 L
  below : Below w0.heap.size w0 wr
  inv : DivInv B9 A V M k L R
theorem natDiv_long (p : Option Addr) (n c0 : Nat) (x : List Nat) (q : Option Addr) (m d0 : Nat) (y : List Nat) (a b K : Nat) (w : World) (hK : K ≤ 900000) (ha : a < B9 ^ K) (hb0 : B9 ≤ b) (hle : b ≤ a) (hnc : n ≤ c0 ∧ (p = none → c0 = 0)) (hx : Rd w p n x) (cx : Canon B9 x) (hxa : val B9 x = a)
    (hmc : m ≤ d0 ∧ (q = none → d0 = 0)) (hy : Rd w q m y) (cy : Canon B9 y) (hyb : val B9 y = b) :
    Calls Tryz.prog 126 #[.slice p n c0, .slice q m d0] w (DivPost9 a b w) := by
  obtain ⟨i0, hi, hz0, hz1, hz2⟩ := info_parts info79
  have hbK : b < B9 ^ K := by omega
  have hb1 : 0 < b := by have := B9_pos; omega
  have hmK := pow9 cy hyb hbK hy
  have hm2 : 2 ≤ m := by
    apply Nat.le_of_not_lt; intro h
    have h1 := val_lt y cy.1
    rw [hyb, hy.len] at h1
    have h2 : B9 ^ m ≤ B9 ^ 1 := Nat.pow_le_pow_right B9_pos (by omega)
    rw [Nat.pow_one] at h2; omega
  obtain ⟨k1, rfl⟩ : ∃ k1, m = k1 + 2 := ⟨m - 2, by omega⟩
  -- what is read of a and b, in every world from here on
  have hA : Hid (∀ W, Below w.heap.size w W → Nat9 W (.slice p n c0) a) := hiD fun W hW => Nat9.below ⟨p, n, c0, x, rfl, hnc, hx, cx, hxa⟩ hW
  have hB : Hid (∀ W, Below w.heap.size w W → Nat9 W (.slice q (k1 + 2) d0) b) := hiD fun W hW => Nat9.below ⟨q, k1 + 2, d0, y, rfl, hmc, hy, cy, hyb⟩ hW
  have hcmp : Hid (∀ W, Below w.heap.size w W → Calls Tryz.prog 147 #[.slice p n c0, .slice q (k1 + 2) d0] W fun e w' => ∃ z : Int, 0 ≤ z ∧ e = .returned (.int .i64 z) ∧ Below w.heap.size w w') := hiD fun W hW => by
    have h := natCmp_nat (.slice p n c0) (.slice q (k1 + 2) d0) a b K W (by unfold most; omega) ha hbK (hA.out W hW) (hB.out W hW)
    refine h.mono fun e w' h => ?_
    obtain ⟨h1, t, h2⟩ := h
    refine ⟨cmp3 a b, ?_, h1, ?_⟩
    · unfold cmp3; rw [if_neg (by omega)]; split <;> omega
    · rw [← h2]; exact hW.trans (below_drewN _ _ _)
  -- the top digit of b, and the scale
  obtain ⟨b1, o1, bt, rfl, hb1', hc1, hbt⟩ := hy.at (k := k1 + 1) (by omega)
  have hbt9 : bt < B9 := by rw [← hbt.out]; exact cy.1.getD B9_pos _
  have hbti : (bt : Int) ≤ 999999999 := by rw [B9_eq] at hbt9; omega
  have hbt0 : bt ≠ 0 := by
    intro h0
    apply cy.2
    have h1 := hbt.out
    rw [h0] at h1
    have h2 : k1 + 1 < y.length := by rw [hy.len]; omega
    rw [List.getLast?_eq_getElem?, hy.len, show k1 + 2 - 1 = k1 + 1 from by omega, List.getElem?_eq_getElem h2]
    rw [List.getD_eq_getElem?_getD, List.getElem?_eq_getElem h2] at h1
    simpa using h1
  have hcellb : Hid (∀ W, Below w.heap.size w W → W.cell? ⟨b1, o1 + (k1 + 1), none⟩ = some (.int .u64 (bt : Int))) := hiD fun W hW => (hW.cell (p := ⟨b1, o1 + (k1 + 1), none⟩) hb1').trans hc1
  obtain ⟨s, hs⟩ : ∃ s : Nat, Hid (s = 1000000000 / (bt + 1)) := ⟨_, hiD rfl⟩
  have hsv : (1000000000 : Int) / ((bt : Int) + 1) = (s : Int) := by rw [hs.out, Int.natCast_ediv]; rfl
  have hs1 : Hid (0 < s ∧ s ≤ 500000000) := hiD ⟨by rw [hs.out]; exact Nat.div_pos (by rw [B9_eq] at hbt9; omega) (by omega), by
    rw [hs.out]
    exact Nat.le_trans (Nat.div_le_div_left (by omega) (by omega : 0 < 2)) (Nat.le_refl _)⟩
  -- scaled numbers
  have hs2 : Hid (s < B9 ^ 2) := hiD (by have := hs1.out.2; rw [B9_eq]; omega)
  obtain ⟨V, hV⟩ : ∃ V, Hid (V = b * s) := ⟨_, hiD rfl⟩
  obtain ⟨A, hAs⟩ : ∃ A, Hid (A = a * s) := ⟨_, hiD rfl⟩
  have hV0 : Hid (0 < V ∧ V ≤ A) := hiD ⟨by rw [hV.out]; exact Nat.mul_pos hb1 hs1.out.1, by rw [hV.out, hAs.out]; exact Nat.mul_le_mul_right _ hle⟩
  have hAK : Hid (A < B9 ^ (K + 2)) := hiD (by rw [hAs.out]; exact pow9_mul ha hs2.out)
  have hmul1 : Hid (∀ W sv, Below w.heap.size w W → Nat9 W sv s → Calls Tryz.prog 108 #[.slice (some ⟨b1, o1, none⟩) (k1 + 2) d0, sv] W (Post9 V W)) := hiD fun W sv hW hsv => by
    have h := natMul_nat (.slice (some ⟨b1, o1, none⟩) (k1 + 2) d0) sv b s K 2 W (by unfold most; omega) (by unfold most; omega) hbK hs2.out (hB.out W hW) hsv
    rw [← hV.out] at h; exact h
  have hmul2 : Hid (∀ W sv, Below w.heap.size w W → Nat9 W sv s → Calls Tryz.prog 108 #[.slice p n c0, sv] W (Post9 A W)) := hiD fun W sv hW hsv => by
    have h := natMul_nat (.slice p n c0) sv a s K 2 W (by unfold most; omega) (by unfold most; omega) ha hs2.out (hA.out W hW) hsv
    rw [← hAs.out] at h; exact h
  have hno : Hid (∀ W, Calls Tryz.prog 109 #[.int .u64 (s : Int)] W (Post9 s W)) := hiD fun W => natOf_any _ W (by have := hs1.out.2; omega)
  have hdv : Hid (a / b = A / V ∧ (A % V) / s = a % b) := hiD (by
    obtain ⟨h1, h2⟩ := scaled_end (q := A / V) (R := A % V) hs1.out.1 hb1 (by rw [hV.out, hAs.out]) (by rw [hV.out, hAs.out])
    exact ⟨h1.symm, h2⟩)
  have hKi : K ≤ 900000 := hK
  have hk1 : (k1 : Int) ≤ 1000000 := by omega
  clear hx cx hxa hmc hnc hy cy hyb ha hbK hle hb0 hb1 hbt9 hbt0 hb1' hc1 hmK hm2
  go_enter Tryz.func126, Tryz.ntmps126
  go_wp2_with fail
  refine (hcmp.out _ (Below.refl _ _)).mono ?_
  rintro e w1 ⟨z, hz, rfl, hb1⟩
  have hzl : decide (z < 0) = false := by simp; exact hz
  have Hb1 := hiD hb1
  have hc := hcellb.out w1 hb1
  clear hb1 hz
  go_wp2_with fail
  refine (hno.out _).mono ?_
  rintro e w2 ⟨vs, rfl, hvs, hb2, -⟩
  obtain ⟨ps, ns, cs, rfl⟩ := hvs.slice
  have Hb2 := hiD (Hb1.out.trans (hb2.mono Hb1.out.size))
  have hm1 := hiD (hmul1.out w2 _ Hb2.out hvs)
  have Hvs := hiD hvs
  clear hvs hb2
  go_wp2_with fail
  refine hm1.out.mono ?_
  rintro e w3 ⟨vv, rfl, hvv, hb3, -⟩
  obtain ⟨bv, ov, kv, cv, lv, rfl, hcv, hrv, clv, hlv, hbv⟩ := hvv.pos (by have := hV0.out.1; omega)
  have Hb3 := hiD (Hb2.out.trans (hb3.mono Hb2.out.size))
  have Hvs3 := hiD (Hvs.out.below hb3)
  have hm2 := hiD (hmul2.out w3 _ Hb3.out Hvs3.out)
  have Hrv := hiD hrv
  have Hlv := hiD (And.intro clv hlv)
  clear hvv hb3 hrv clv hlv
  go_wp2_with fail
  refine hm2.out.mono ?_
  rintro e w4 ⟨vr, rfl, hvr, hb4, -⟩
  obtain ⟨br, or, kr, cr, lr, rfl, hcr, hrr, clr, hlr, hbr⟩ := hvr.pos (by have := hV0.out; omega)
  have Hb4 := hiD (Hb3.out.trans (hb4.mono Hb3.out.size))
  have Hvs4 := hiD (Hvs3.out.below hb4)
  have Hrv4 := hiD (Hrv.out.below hb4)
  have hpl := quo_places Hlv.out.1 Hlv.out.2 (by rw [Hrv4.out.len]) clr hlr hV0.out.2
  rw [hrr.len] at hpl
  obtain ⟨M, hM⟩ : ∃ M : Nat, kr = M + kv := ⟨kr - kv, by omega⟩
  subst hM
  have hpl2 : Hid (A < V * B9 ^ (M + 1)) := hiD (by
    have := hpl.2
    rw [show M + kv + 1 - (kv + 1) + 1 = M + 1 from by omega] at this; exact this)
  have hkrK := pow9 clr hlr hAK.out hrr
  have hkr : ((M : Int) + kv) ≤ 1000001 := by omega
  have hMi : (M : Int) ≤ 1000001 := by omega
  have hkvi : (kv : Int) ≤ 1000001 := by omega
  have Hvr := hiD (show Nat9 w4 (.slice (some ⟨br, or, none⟩) (M + kv + 1) cr) A from hvr)
  have hbvw : Hid (bv < w4.heap.size) := hiD (by have := hb4.size; omega)
  have Hbr := hiD hbr
  have hmaxv : max ((M : Int) + kv + 1 - (kv + 1) + 1) 1 = ((M + 1 : Nat) : Int) := by omega
  have hmax2 : max ((M : Int) + 1) 1 = ((M + 1 : Nat) : Int) := by omega
  clear hvr hb4 hrr clr hlr hpl hbv hbr hkrK
  go_wp2_with (at_make; refine wpList_make_full _ rfl _ _ 100 rfl w4.heap.size 125 i0 (.int .u64 0) 1 underlying36 hi hz0 hz1 _ _ _ _ (M + 1) rfl rfl ?b0 ?b1 ?b2 ?b3 (Nat.le_refl _) ?_)
  case b0 => omega
  case b1 => omega
  case b2 => rw [hz2]; omega
  case b3 => unfold maxLen; omega
  intro w5 hown hgrow
  have hr5 : Row w5 w4.heap.size 125 (List.replicate (M + 1) 0) := row_of_made hown
  have hb5 : Below w4.heap.size w4 w5 := (Below.refl _ _).grown hgrow (Nat.le_refl _) (fun k h => by cases h)
  have hst : Hid (DivAt w4 w5 w4.heap.size A V (M + 1) (M + 1) A (List.replicate (M + 1) 0) (.slice (some ⟨br, or, none⟩) (M + kv + 1) cr)) := hiD ⟨Hvr.out.below hb5, fun b o n c e => by cases e; have := Hbr.out; omega, hr5, hb5, DivInv.start B9_pos hpl2.out⟩
  have Hvr5 := hiD ((Hvr.out.below hb5))
  clear hown hgrow hr5 hb5
  go_wp2_with fail
  go_loopw [10, 13] (fun rv iv wr => ∃ (k : Nat) (z : Int) (R : Nat) (L : List Nat) (pr : Option Addr) (nr cr : Nat), k ≤ M + 1 ∧ iv = .int .i64 z ∧ z + 1 = k ∧ rv = .slice pr nr cr ∧ Hid (DivAt w4 wr w4.heap.size A V (M + 1) k R L rv)) (fun _ iv _ => (intOf iv + 1).toNat)
  case atStart => exact ⟨M + 1, (M : Int), A, _, _, _, _, Nat.le_refl _, rfl, by omega, rfl, hst⟩
  case round =>
    obtain ⟨k, z, R, L, pr, nr, cr2, hk, rfl, hz, rfl, hat⟩ := hrel
    by_cases h0 : k = 0
    · obtain rfl : z = -1 := by omega
      subst h0
      have hdone := hiD hat.out.inv.done
      have hRV : Hid (R < B9 ^ (K + 2)) := hiD (by
        have h1 := hat.out.inv.lt
        rw [Nat.pow_zero, Nat.mul_one] at h1
        have h2 := hV0.out.2; have h3 := hAK.out; omega)
      have hvs5 := hiD (Hvs4.out.below hat.out.below)
      have hrec : Hid (Calls Tryz.prog 126 #[.slice pr nr cr2, .slice ps ns cs] wr (DivPost9 R s wr)) := hiD (natDiv_small _ _ R s (K + 2) wr (by omega) (by omega) hRV.out hs1.out.1 (by have := hs1.out.2; rw [B9_eq]; omega) hat.out.rest hvs5.out)
      clear hz
      go_wp2_with fail
      refine hrec.out.mono ?_
      rintro e w6 ⟨v6, r6, rfl, hv6, hr6, hb6⟩
      obtain ⟨p6, n6, c6, rfl⟩ := hv6.slice
      obtain ⟨p7, n7, c7, rfl⟩ := hr6.slice
      have hrow6 : Row w6 w4.heap.size 125 L := Below.row hb6 hat.out.row hat.out.row.lt
      have hrd6 := hrow6.rd0 (M + 1) hat.out.inv.len.symm
      have Hv6 := hiD hv6
      have Hb6 := hiD ((Hb4.out.trans (hat.out.below.mono Hb4.out.size)).trans (hb6.mono (by have h1 := Hb4.out.size; have h2 := hat.out.below.size; omega)))
      have ht : Hid (Calls Tryz.prog 127 #[.slice (some ⟨w4.heap.size, 0, none⟩) (M + 1) (M + 1)] w6 (fun e w' => ∃ v, e = .returned v ∧ Nat9 w' v (val B9 L) ∧ Below w6.heap.size w6 w')) := hiD (by
        refine (trim_any _ _ _ L w6 (by unfold maxLen; omega) (Nat.le_refl _) hrd6).mono fun _ _ h => ?_
        exact trim_post9' ⟨Nat.le_refl _, fun h => by cases h⟩ hrd6 hat.out.inv.dig h)
      clear hv6 hr6 hb6 hrow6 hrd6
      go_wp2_with fail
      refine ht.out.mono ?_
      rintro e w7 ⟨v7, rfl, hv7, hb7⟩
      obtain ⟨p8, n8, c8, rfl⟩ := hv7.slice
      have hend : Hid (DivPost9 a b w (.returned (.tuple #[.slice p8 n8 c8, .slice p6 n6 c6])) w7) := hiD ⟨_, _, rfl, by rw [hdv.out.1, ← hdone.out.1]; exact hv7, by rw [← hdv.out.2, ← hdone.out.2]; exact Hv6.out.below hb7, Hb6.out.trans (hb7.mono Hb6.out.size)⟩
      clear hv7 hb7
      go_wp2_with fail
      go_ret2
      exact hend.out
    · obtain ⟨j, rfl⟩ : ∃ j : Nat, z = j := ⟨z.toNat, by omega⟩
      obtain rfl : k = j + 1 := by omega
      clear hz h0
      have hj : j ≤ M := by omega
      have hji : (j : Int) ≤ 1000001 := by omega
      obtain ⟨D, hD⟩ : ∃ D, Hid (D = V * B9 ^ j) := ⟨_, hiD rfl⟩
      have hD0 : Hid (0 < D) := hiD (by rw [hD.out]; exact Nat.mul_pos hV0.out.1 (Nat.pow_pos B9_pos))
      have hVK : Hid (V < B9 ^ (K + 2)) := hiD (by have h1 := hV0.out.2; have h2 := hAK.out; omega)
      obtain ⟨P, hP⟩ : ∃ P, Hid (D < B9 ^ P ∧ P ≤ 2000000) := ⟨K + 2 + (j + 1), hiD ⟨by
        rw [hD.out]
        exact pow9_mul hVK.out (Nat.pow_lt_pow_right (by rw [B9_eq]; omega) (by omega)), by omega⟩⟩
      obtain ⟨p', n', c', lr, he, hnr, hrr, clr, hlr⟩ := hat.out.rest
      cases he
      have hfg := first_guess (j := j) B9_pos Hlv.out.1 Hlv.out.2 (by rw [Hrv4.out.len]) clr hlr hat.out.inv.lt
      rw [← hD.out, hrr.len] at hfg
      have hRV : Hid (R < B9 ^ (K + 2)) := hiD (by have h1 := hat.out.inv.eq; have h3 := hAK.out; omega)
      have hnrK := pow9 clr hlr hRV.out hrr
      have hnri : (nr : Int) ≤ 1000002 := by omega
      obtain ⟨vt, hvt⟩ : ∃ vt, Hid (lv.getD kv 0 = vt) := ⟨_, hiD rfl⟩
      obtain ⟨r0, hr0⟩ : ∃ r0, Hid (lr.getD (j + kv) 0 = r0) := ⟨_, hiD rfl⟩
      obtain ⟨r1, hr1⟩ : ∃ r1, Hid (lr.getD (j + kv + 1) 0 = r1) := ⟨_, hiD rfl⟩
      rw [hvt.out, hr0.out, hr1.out] at hfg
      have hr0i : (r0 : Int) ≤ 999999999 := by have h := clr.1.getD B9_pos (j + kv); rw [hr0.out, B9_eq] at h; omega
      have hr1i : (r1 : Int) ≤ 999999999 := by have h := clr.1.getD B9_pos (j + kv + 1); rw [hr1.out, B9_eq] at h; omega
      have hvti : (vt : Int) ≤ 999999999 := by have h := Hlv.out.1.1.getD B9_pos kv; rw [hvt.out, B9_eq] at h; omega
      have hvt1 : (1 : Int) ≤ vt := by have := hfg.2.1; omega
      have hvt0 : ((vt : Int) == 0) = false := by simp; omega
      have hlenr := hfg.1
      have Hfg := hiD hfg.2.2
      have Hrr := hiD hrr
      clear hfg hrr clr hnrK
      have hrest : Hid (∀ W, Below wr.heap.size wr W → Nat9 W (.slice pr nr cr2) R) := hiD fun W hW => hat.out.rest.below hW
      go_wp2_with (at_make; refine wpList_make_full _ rfl _ _ 100 rfl wr.heap.size 125 i0 (.int .u64 0) 1 underlying36 hi hz0 hz1 _ _ _ _ j rfl rfl (by omega) (by omega) ?c2 ?c3 (Nat.le_refl _) ?_)
      case c2 => rw [hz2]; omega
      case c3 => unfold maxLen; omega
      intro w6 hown6 hgrow6
      have hb6 : Below wr.heap.size wr w6 := (Below.refl _ _).grown hgrow6 (Nat.le_refl _) (fun k h => by cases h)
      have hown6' : Hid (w6.ownsRow wr.heap.size 125 1 (.slice (some ⟨wr.heap.size, 0, none⟩) j j) j (u64s (List.replicate j 0))) := hiD (by rw [← made_zeros]; exact hown6)
      have hb46 := hiD (hat.out.below.trans (hb6.mono hat.out.below.size))
      have hnews := hiD (Hrv4.out.news hb46.out ⟨bv, ov, none⟩ rfl)
      have hul : Hid ((u64s lv).length = (kv + 1) * 1) := hiD (by rw [u64s_length, Hrv4.out.len, Nat.mul_one])
      have hlen : Hid (j + (kv + 1) ≤ maxLen ∧ (j + (kv + 1)) * 8 ≤ 140737488355328 ∧ wr.heap.size ≤ w6.heap.size) := hiD ⟨by unfold maxLen; omega, by omega, hb6.size⟩
      have Hb6 := hiD hb6
      clear hown6 hgrow6 hb6
      go_wp2_with (at_builtin; refine wpList_append_own _ rfl (.tmp 75) (.tmp 76) 100 rfl wr.heap.size 125 i0 (.int .u64 0) 1 8 underlying36 hi hz0 hz1 hz2 rfl (by decide) _ _ _ rfl hown6'.out ⟨bv, ov, none⟩ (kv + 1) _ (u64s lv) rfl hul.out hnews.out (u64s_one lv) hlen.out.1 hlen.out.2.1 hlen.out.2.2 ?_)
      intro v7 w7 hown7 hgrow7 _
      have hb7 : Hid (Below wr.heap.size wr w7) := hiD (Hb6.out.grown hgrow7 Hb6.out.size (fun k hk => by cases hk; exact Nat.le_refl _))
      have hsh : ∃ p7 c7, v7 = .slice p7 (j + (kv + 1)) c7 ∧ Hid (Nat9 w7 v7 D) := by
        have hown8 : w7.ownsRow wr.heap.size 125 1 v7 (j + (kv + 1)) (u64s (List.replicate j 0 ++ lv)) := by
          have e : u64s (List.replicate j 0 ++ lv) = u64s (List.replicate j 0) ++ u64s lv := by simp [u64s]
          rw [e]; exact hown7
        obtain ⟨p7, c7, h1, h2, h3, h4⟩ := own_rd hown8
        refine ⟨p7, c7, h1, hiD ⟨p7, _, c7, _, h1, h2, h3, Hlv.out.1.shift ?_ B9_pos j, ?_⟩⟩
        · intro h0
          have := Hrv4.out.len
          rw [h0] at this; simp at this
        · rw [val_shift, Hlv.out.2, hD.out, Nat.mul_comm]
      obtain ⟨p7, c7, rfl, hsh⟩ := hsh
      have hcv7 : w7.cell? ⟨bv, ov + kv, none⟩ = some (.int .u64 (vt : Int)) := by
        obtain ⟨_, _, h3⟩ := Hrv4.out.opened (by omega)
        obtain ⟨h3, h4, h5⟩ := h3
        cases h3
        have h6 := h5 kv (by omega)
        rw [hvt.out] at h6
        exact ((hat.out.below.trans (hb7.out.mono hat.out.below.size)).cell (p := ⟨bv, ov + kv, none⟩) h4).trans h6
      have hno : Hid (∀ (G : Nat) W, G ≤ 999999999 → Calls Tryz.prog 109 #[.int .u64 (G : Int)] W (Post9 G W)) := hiD fun G W h => natOf_any G W (by omega)
      have hmul : Hid (∀ (G : Nat) W vg, G ≤ 999999999 → Nat9 W vg G → Nat9 W (.slice p7 (j + (kv + 1)) c7) D → Calls Tryz.prog 108 #[.slice p7 (j + (kv + 1)) c7, vg] W (Post9 (D * G) W)) := hiD fun G W vg h h2 h3 =>
        natMul_nat _ _ D G P 1 W (by have := hP.out.2; unfold most; omega) (by unfold most; omega) hP.out.1 (by rw [Nat.pow_one, B9_eq]; omega) h3 h2
      have hcmp2 : Hid (∀ (G : Nat) W vp, G ≤ 999999999 → Nat9 W vp (D * G) → Nat9 W (.slice pr nr cr2) R → Calls Tryz.prog 147 #[vp, .slice pr nr cr2] W fun e w' => e = .returned (.int .i64 (cmp3 (D * G) R)) ∧ Below W.heap.size W w') := hiD fun G W vp h h2 h3 => by
        have h4 := natCmp_nat vp (.slice pr nr cr2) (D * G) R (P + (K + 2)) W (by have := hP.out.2; unfold most; omega) (by
          have h5 : G < B9 ^ (K + 2) := by
            have h6 : B9 ^ 1 ≤ B9 ^ (K + 2) := Nat.pow_le_pow_right B9_pos (by omega)
            rw [Nat.pow_one, B9_eq] at h6
            rw [B9_eq]; omega
          exact pow9_mul hP.out.1 h5) (pow9_mono hRV.out (by omega)) h2 h3
        refine h4.mono fun e w' h => ?_
        obtain ⟨h1, t, h2⟩ := h
        exact ⟨h1, by rw [← h2]; exact below_drewN _ _ _⟩
      have hsub : Hid (∀ (G : Nat) W vp, G = R / D → Nat9 W vp (D * G) → Nat9 W (.slice pr nr cr2) R → Calls Tryz.prog 149 #[.slice pr nr cr2, vp] W (Post9 (R - G * D) W)) := hiD fun G W vp h h2 h3 => by
        have h4 := natSub_nat (.slice pr nr cr2) vp R (D * G) (K + 2) W (by unfold most; omega) hRV.out (by rw [h]; exact Nat.mul_div_le _ _) h3 h2
        rw [Nat.mul_comm D G] at h4; exact h4
      have hstep : Hid (DivInv B9 A V (M + 1) j (L.set j (R / D)) (R - R / D * D)) := hiD (by
        have h := hat.out.inv.step B9_pos hV0.out.1 (by omega) (R / D) (by rw [hD.out])
        rw [← hD.out] at h; exact h)
      clear hown7 hgrow7
      by_cases hj1 : j + kv + 1 < nr
      · have hjn : (j : Int) + (kv + 1) < nr := by omega
        have hjn1 : (j : Int) + kv < nr := by omega
        have hjk : (j : Int) + (kv + 1) - 1 = (j : Int) + kv := by omega
        have hjkn : j + (kv + 1) - 1 = j + kv := by omega
        obtain ⟨br2, or2, hpr, hbr2, hrc⟩ := Hrr.out.opened (by omega)
        subst hpr
        have hc71 : w7.cell? ⟨br2, or2 + (j + (kv + 1)), none⟩ = some (.int .u64 (r1 : Int)) := by
          have h6 := hrc (j + (kv + 1)) (by omega)
          rw [show j + (kv + 1) = j + kv + 1 from rfl, hr1.out] at h6
          exact (hb7.out.cell (p := ⟨br2, or2 + (j + kv + 1), none⟩) hbr2).trans h6
        have hc70 : w7.cell? ⟨br2, or2 + (j + kv), none⟩ = some (.int .u64 (r0 : Int)) := by
          have h6 := hrc (j + kv) (by omega)
          rw [hr0.out] at h6
          exact (hb7.out.cell (p := ⟨br2, or2 + (j + kv), none⟩) hbr2).trans h6
        clear hrc
        obtain ⟨T, hTn⟩ : ∃ T, Hid (T = r1 * B9 + r0) := ⟨_, hiD rfl⟩
        have hT : (r1 : Int) * 1000000000 + r0 = (T : Int) := by rw [hTn.out, B9_eq]; omega
        have hTb : (T : Int) ≤ 1000000000000000000 := by omega
        obtain ⟨Q0, hQ0⟩ : ∃ Q0, Hid (Q0 = T / vt) := ⟨_, hiD rfl⟩
        have hQv : (T : Int) / (vt : Int) = (Q0 : Int) := by rw [hQ0.out, Int.natCast_ediv]
        have hQb : (Q0 : Int) ≤ 1000000000000000000 := by
          have h1 : Q0 ≤ T := by rw [hQ0.out]; exact Nat.div_le_self _ _
          omega
        obtain ⟨G0, hG0⟩ : ∃ G0, Hid (G0 = min Q0 999999999) := ⟨_, hiD rfl⟩
        have hmin : min (Q0 : Int) 999999999 = (G0 : Int) := by rw [hG0.out]; omega
        have hG : Hid (R / D ≤ Q0 ∧ R / D ≤ 999999999) := hiD (by
          have h := Hfg.out
          rw [← hTn.out, ← hQ0.out, show B9 - 1 = 999999999 from rfl] at h
          exact Nat.le_min.1 h)
        have hrow := hiD (Below.row hb7.out hat.out.row hat.out.row.lt)
        (go_wp2_with fail) <;> (
          go_loopw [16] (fun gv w8 => ∃ (G : Nat), gv = .int .u64 (G : Int) ∧ Hid (R / D ≤ G ∧ G ≤ 999999999) ∧ Below w7.heap.size w7 w8) (fun gv _ => (intOf gv).toNat)
          case atStart => first | exact ⟨Q0, rfl, hiD ⟨hG.out.1, by omega⟩, Below.refl _ _⟩ | exact ⟨G0, rfl, hiD ⟨by rw [hG0.out]; exact Nat.le_min.2 hG.out, by rw [hG0.out]; omega⟩, Below.refl _ _⟩ | exact ⟨999999999, rfl, hiD ⟨hG.out.2, by omega⟩, Below.refl _ _⟩
          case round =>
            obtain ⟨G, rfl, hGi, hb8⟩ := hrel
            have hGb : (G : Int) ≤ 999999999 := by have := hGi.out.2; omega
            have Hb8 := hiD (hb7.out.trans (hb8.mono hb7.out.size))
            have hn8 := hiD (hno.out G wr hGi.out.2)
            have hsh8 := hiD (hsh.out.below hb8)
            have Hw8 := hiD hb8
            clear hb8
            go_wp2_with fail
            refine hn8.out.mono ?_
            rintro e w9 ⟨vg, rfl, hvg, hb9, -⟩
            obtain ⟨p9, n9, c9, rfl⟩ := hvg.slice
            have hm9 := hiD (hmul.out G w9 _ hGi.out.2 hvg (hsh8.out.below hb9))
            have hsh9 := hiD (hsh8.out.below hb9)
            have Hb9 := hiD (Hb8.out.trans (hb9.mono Hb8.out.size))
            have Hw9 := hiD (Hw8.out.trans (hb9.mono Hw8.out.size))
            clear hvg hb9
            go_wp2_with fail
            refine hm9.out.mono ?_
            rintro e w10 ⟨vp, rfl, hvp, hb10, -⟩
            obtain ⟨p10, n10, c10, rfl⟩ := hvp.slice
            have Hb10 := hiD (Hb9.out.trans (hb10.mono Hb9.out.size))
            have Hw10 := hiD (Hw9.out.trans (hb10.mono Hw9.out.size))
            have hc10 := hiD (hcmp2.out G w10 _ hGi.out.2 hvp (hrest.out _ Hb10.out))
            have hsh10 := hiD (hsh9.out.below hb10)
            clear hvp hb10
            by_cases hlt : R < D * G
            · have hcv : Hid (cmp3 (D * G) R = 1) := hiD (by unfold cmp3; rw [if_neg (by omega), if_pos hlt])
              rw [hcv.out] at hc10
              have hgl := hiD (guess_low hD0.out hGi.out.1 hlt)
              have hG1 : (1 : Int) ≤ G := by have := hgl.out.2; omega
              clear hlt
              go_wp2_with fail
              refine hc10.out.mono ?_
              rintro e w11 ⟨rfl, hb11⟩
              have Hw11 := hiD (Hw10.out.trans (hb11.mono Hw10.out.size))
              clear hb11
              go_wp2_with fail
              go_roundw
              case rel =>
                have hq : ∃ G' : Nat, Value.int .u64 ((G : Int) - 1) = .int .u64 (G' : Int) ∧ Hid (R / D ≤ G' ∧ G' ≤ 999999999) ∧ Below w7.heap.size w7 w11 := ⟨G - 1, by go_num, hiD ⟨hgl.out.1, by have := hGi.out.2; omega⟩, Hw11.out⟩
                first
                  | exact hq
                  | exact ⟨_, _, _, _, _, _, _, _, _, _, hq, rfl⟩
              case measure => simp [intOf]; omega
            · obtain ⟨cz, hcz⟩ : ∃ cz, Hid (cmp3 (D * G) R = cz) := ⟨_, hiD rfl⟩
              have hcz0 : decide ((0 : Int) < cz) = false := by
                rw [← hcz.out]; unfold cmp3
                simp; split
                · omega
                · omega
              rw [hcz.out] at hc10
              have hGq := hiD (guess_right hD0.out hGi.out.1 hlt)
              have hstep2 : Hid (DivInv B9 A V (M + 1) j (L.set j G) (R - G * D)) := hiD (by rw [hGq.out]; exact hstep.out)
              clear hlt
              go_wp2_with fail
              refine hc10.out.mono ?_
              rintro e w11 ⟨rfl, hb11⟩
              have Hw11 := hiD (Hw10.out.trans (hb11.mono Hw10.out.size))
              have hn11 := hiD (hno.out G w11 hGi.out.2)
              clear hb11
              go_wp2_with fail
              refine hn11.out.mono ?_
              rintro e w12 ⟨vg2, rfl, hvg2, hb12, -⟩
              obtain ⟨p12, n12, c12, rfl⟩ := hvg2.slice
              have Hw12 := hiD (Hw11.out.trans (hb12.mono Hw11.out.size))
              have hm12 := hiD (hmul.out G w12 _ hGi.out.2 hvg2 (hsh.out.below Hw12.out))
              clear hvg2 hb12
              go_wp2_with fail
              refine hm12.out.mono ?_
              rintro e w13 ⟨vp2, rfl, hvp2, hb13, -⟩
              obtain ⟨p13, n13, c13, rfl⟩ := hvp2.slice
              have Hw13 := hiD (Hw12.out.trans (hb13.mono Hw12.out.size))
              have hs13 := hiD (hsub.out G w13 _ hGq.out hvp2 (hrest.out _ (hb7.out.trans (Hw13.out.mono hb7.out.size))))
              clear hvp2 hb13
              go_wp2_with fail
              refine hs13.out.mono ?_
              rintro e w14 ⟨vr2, rfl, hvr2, hb14, hfr⟩
              obtain ⟨p14, n14, c14, rfl⟩ := hvr2.slice
              have Hw14 := hiD (Hw13.out.trans (hb14.mono Hw13.out.size))
              have hrow14 : Row w14 w4.heap.size 125 L := Below.row Hw14.out hrow.out hrow.out.lt
              have hcell14 := hrow14.cell j (by rw [hat.out.inv.len]; omega)
              have hfree14 := hrow14.free j
              have hap : Apart w4.heap.size (.slice p14 n14 c14) := hfr.apart (Nat.lt_of_lt_of_le hrow.out.lt Hw13.out.size)
              have hnext : Hid (DivAt w4 (w14.setCell ⟨w4.heap.size, j, none⟩ (.int .u64 (G : Int))) w4.heap.size A V (M + 1) j (R - G * D) (L.set j G) (.slice p14 n14 c14)) := hiD ⟨hvr2.set hap j _, hap, hrow14.set j G, ((hat.out.below.trans (hb7.out.mono hat.out.below.size)).trans (Hw14.out.mono (by have h1 := hat.out.below.size; have h2 := hb7.out.size; omega))).setCell (Nat.le_refl _) _, hstep2.out⟩
              clear hvr2 hb14 hfr hrow14 hap
              go_wp2_with fail
              go_roundw
              case rel => exact ⟨j, (j : Int) - 1, R - G * D, _, _, _, _, by omega, rfl, by omega, rfl, hnext⟩
              case measure => simp [intOf])
      · by_cases hj0 : j + kv < nr
        · have hjn : ¬ (j : Int) + (kv + 1) < nr := by omega
          have hjn1 : (j : Int) + kv < nr := by omega
          obtain ⟨br2, or2, hpr, hbr2, hrc⟩ := Hrr.out.opened (by omega)
          subst hpr
          have hc70 : w7.cell? ⟨br2, or2 + (j + kv), none⟩ = some (.int .u64 (r0 : Int)) := by
            have h6 := hrc (j + kv) (by omega)
            rw [hr0.out] at h6
            exact (hb7.out.cell (p := ⟨br2, or2 + (j + kv), none⟩) hbr2).trans h6
          clear hrc
          have hr1z : r1 = 0 := by rw [← hr1.out, List.getD_eq_getElem?_getD, List.getElem?_eq_none (by rw [Hrr.out.len]; omega)]; rfl
          obtain ⟨T, hTn⟩ : ∃ T, Hid (T = r1 * B9 + r0) := ⟨_, hiD rfl⟩
          obtain rfl : r0 = T := by rw [hTn.out, hr1z]; omega
          have hTb : (r0 : Int) ≤ 1000000000000000000 := by omega
          obtain ⟨Q0, hQ0⟩ : ∃ Q0, Hid (Q0 = r0 / vt) := ⟨_, hiD rfl⟩
          have hQv : (r0 : Int) / (vt : Int) = (Q0 : Int) := by rw [hQ0.out, Int.natCast_ediv]
          have hQb : (Q0 : Int) ≤ 1000000000000000000 := by
            have h1 : Q0 ≤ r0 := by rw [hQ0.out]; exact Nat.div_le_self _ _
            omega
          obtain ⟨G0, hG0⟩ : ∃ G0, Hid (G0 = min Q0 999999999) := ⟨_, hiD rfl⟩
          have hmin : min (Q0 : Int) 999999999 = (G0 : Int) := by rw [hG0.out]; omega
          have hG : Hid (R / D ≤ Q0 ∧ R / D ≤ 999999999) := hiD (by
            have h := Hfg.out
            rw [← hTn.out, ← hQ0.out, show B9 - 1 = 999999999 from rfl] at h
            exact Nat.le_min.1 h)
          clear hr1z
          have hrow := hiD (Below.row hb7.out hat.out.row hat.out.row.lt)
          (go_wp2_with fail) <;> (
            go_loopw [16] (fun gv w8 => ∃ (G : Nat), gv = .int .u64 (G : Int) ∧ Hid (R / D ≤ G ∧ G ≤ 999999999) ∧ Below w7.heap.size w7 w8) (fun gv _ => (intOf gv).toNat)
            case atStart => first | exact ⟨Q0, rfl, hiD ⟨hG.out.1, by omega⟩, Below.refl _ _⟩ | exact ⟨G0, rfl, hiD ⟨by rw [hG0.out]; exact Nat.le_min.2 hG.out, by rw [hG0.out]; omega⟩, Below.refl _ _⟩ | exact ⟨999999999, rfl, hiD ⟨hG.out.2, by omega⟩, Below.refl _ _⟩
            case round =>
              obtain ⟨G, rfl, hGi, hb8⟩ := hrel
              have hGb : (G : Int) ≤ 999999999 := by have := hGi.out.2; omega
              have Hb8 := hiD (hb7.out.trans (hb8.mono hb7.out.size))
              have hn8 := hiD (hno.out G wr hGi.out.2)
              have hsh8 := hiD (hsh.out.below hb8)
              have Hw8 := hiD hb8
              clear hb8
              go_wp2_with fail
              refine hn8.out.mono ?_
              rintro e w9 ⟨vg, rfl, hvg, hb9, -⟩
              obtain ⟨p9, n9, c9, rfl⟩ := hvg.slice
              have hm9 := hiD (hmul.out G w9 _ hGi.out.2 hvg (hsh8.out.below hb9))
              have hsh9 := hiD (hsh8.out.below hb9)
              have Hb9 := hiD (Hb8.out.trans (hb9.mono Hb8.out.size))
              have Hw9 := hiD (Hw8.out.trans (hb9.mono Hw8.out.size))
              clear hvg hb9
              go_wp2_with fail
              refine hm9.out.mono ?_
              rintro e w10 ⟨vp, rfl, hvp, hb10, -⟩
              obtain ⟨p10, n10, c10, rfl⟩ := hvp.slice
              have Hb10 := hiD (Hb9.out.trans (hb10.mono Hb9.out.size))
              have Hw10 := hiD (Hw9.out.trans (hb10.mono Hw9.out.size))
              have hc10 := hiD (hcmp2.out G w10 _ hGi.out.2 hvp (hrest.out _ Hb10.out))
              have hsh10 := hiD (hsh9.out.below hb10)
              clear hvp hb10
              by_cases hlt : R < D * G
              · have hcv : Hid (cmp3 (D * G) R = 1) := hiD (by unfold cmp3; rw [if_neg (by omega), if_pos hlt])
                rw [hcv.out] at hc10
                have hgl := hiD (guess_low hD0.out hGi.out.1 hlt)
                have hG1 : (1 : Int) ≤ G := by have := hgl.out.2; omega
                clear hlt
                go_wp2_with fail
                refine hc10.out.mono ?_
                rintro e w11 ⟨rfl, hb11⟩
                have Hw11 := hiD (Hw10.out.trans (hb11.mono Hw10.out.size))
                clear hb11
                go_wp2_with fail
                go_roundw
                case rel =>
                  have hq : ∃ G' : Nat, Value.int .u64 ((G : Int) - 1) = .int .u64 (G' : Int) ∧ Hid (R / D ≤ G' ∧ G' ≤ 999999999) ∧ Below w7.heap.size w7 w11 := ⟨G - 1, by go_num, hiD ⟨hgl.out.1, by have := hGi.out.2; omega⟩, Hw11.out⟩
                  first
                    | exact hq
                    | exact ⟨_, _, _, _, _, _, _, _, _, _, hq, rfl⟩
                case measure => simp [intOf]; omega
              · obtain ⟨cz, hcz⟩ : ∃ cz, Hid (cmp3 (D * G) R = cz) := ⟨_, hiD rfl⟩
                have hcz0 : decide ((0 : Int) < cz) = false := by
                  rw [← hcz.out]; unfold cmp3
                  simp; split
                  · omega
                  · omega
                rw [hcz.out] at hc10
                have hGq := hiD (guess_right hD0.out hGi.out.1 hlt)
                have hstep2 : Hid (DivInv B9 A V (M + 1) j (L.set j G) (R - G * D)) := hiD (by rw [hGq.out]; exact hstep.out)
                clear hlt
                go_wp2_with fail
                refine hc10.out.mono ?_
                rintro e w11 ⟨rfl, hb11⟩
                have Hw11 := hiD (Hw10.out.trans (hb11.mono Hw10.out.size))
                have hn11 := hiD (hno.out G w11 hGi.out.2)
                clear hb11
                go_wp2_with fail
                refine hn11.out.mono ?_
                rintro e w12 ⟨vg2, rfl, hvg2, hb12, -⟩
                obtain ⟨p12, n12, c12, rfl⟩ := hvg2.slice
                have Hw12 := hiD (Hw11.out.trans (hb12.mono Hw11.out.size))
                have hm12 := hiD (hmul.out G w12 _ hGi.out.2 hvg2 (hsh.out.below Hw12.out))
                clear hvg2 hb12
                go_wp2_with fail
                refine hm12.out.mono ?_
                rintro e w13 ⟨vp2, rfl, hvp2, hb13, -⟩
                obtain ⟨p13, n13, c13, rfl⟩ := hvp2.slice
                have Hw13 := hiD (Hw12.out.trans (hb13.mono Hw12.out.size))
                have hs13 := hiD (hsub.out G w13 _ hGq.out hvp2 (hrest.out _ (hb7.out.trans (Hw13.out.mono hb7.out.size))))
                clear hvp2 hb13
                go_wp2_with fail
                refine hs13.out.mono ?_
                rintro e w14 ⟨vr2, rfl, hvr2, hb14, hfr⟩
                obtain ⟨p14, n14, c14, rfl⟩ := hvr2.slice
                have Hw14 := hiD (Hw13.out.trans (hb14.mono Hw13.out.size))
                have hrow14 : Row w14 w4.heap.size 125 L := Below.row Hw14.out hrow.out hrow.out.lt
                have hcell14 := hrow14.cell j (by rw [hat.out.inv.len]; omega)
                have hfree14 := hrow14.free j
                have hap : Apart w4.heap.size (.slice p14 n14 c14) := hfr.apart (Nat.lt_of_lt_of_le hrow.out.lt Hw13.out.size)
                have hnext : Hid (DivAt w4 (w14.setCell ⟨w4.heap.size, j, none⟩ (.int .u64 (G : Int))) w4.heap.size A V (M + 1) j (R - G * D) (L.set j G) (.slice p14 n14 c14)) := hiD ⟨hvr2.set hap j _, hap, hrow14.set j G, ((hat.out.below.trans (hb7.out.mono hat.out.below.size)).trans (Hw14.out.mono (by have h1 := hat.out.below.size; have h2 := hb7.out.size; omega))).setCell (Nat.le_refl _) _, hstep2.out⟩
                clear hvr2 hb14 hfr hrow14 hap
                go_wp2_with fail
                go_roundw
                case rel => exact ⟨j, (j : Int) - 1, R - G * D, _, _, _, _, by omega, rfl, by omega, rfl, hnext⟩
                case measure => simp [intOf])
        · have hjn : ¬ (j : Int) + (kv + 1) < nr := by omega
          have hjn1 : ¬ (j : Int) + kv < nr := by omega
          have hr1z : r1 = 0 := by rw [← hr1.out, List.getD_eq_getElem?_getD, List.getElem?_eq_none (by rw [Hrr.out.len]; omega)]; rfl
          have hr0z : r0 = 0 := by rw [← hr0.out, List.getD_eq_getElem?_getD, List.getElem?_eq_none (by rw [Hrr.out.len]; omega)]; rfl
          have hG : Hid (R / D ≤ 0 ∧ 0 ≤ 999999999) := hiD (by
            have h := Hfg.out
            rw [hr1z, hr0z, Nat.zero_mul, Nat.zero_add, Nat.zero_div, Nat.zero_min] at h
            exact ⟨h, by omega⟩)
          clear hr1z hr0z
          have hrow := hiD (Below.row hb7.out hat.out.row hat.out.row.lt)
          go_wp2_with fail
          go_loopw [16] (fun gv w8 => ∃ (G : Nat), gv = .int .u64 (G : Int) ∧ Hid (R / D ≤ G ∧ G ≤ 999999999) ∧ Below w7.heap.size w7 w8) (fun gv _ => (intOf gv).toNat)
          case atStart => exact ⟨0, rfl, hG, Below.refl _ _⟩
          case round =>
            obtain ⟨G, rfl, hGi, hb8⟩ := hrel
            have hGb : (G : Int) ≤ 999999999 := by have := hGi.out.2; omega
            have Hb8 := hiD (hb7.out.trans (hb8.mono hb7.out.size))
            have hn8 := hiD (hno.out G wr hGi.out.2)
            have hsh8 := hiD (hsh.out.below hb8)
            have Hw8 := hiD hb8
            clear hb8
            go_wp2_with fail
            refine hn8.out.mono ?_
            rintro e w9 ⟨vg, rfl, hvg, hb9, -⟩
            obtain ⟨p9, n9, c9, rfl⟩ := hvg.slice
            have hm9 := hiD (hmul.out G w9 _ hGi.out.2 hvg (hsh8.out.below hb9))
            have hsh9 := hiD (hsh8.out.below hb9)
            have Hb9 := hiD (Hb8.out.trans (hb9.mono Hb8.out.size))
            have Hw9 := hiD (Hw8.out.trans (hb9.mono Hw8.out.size))
            clear hvg hb9
            go_wp2_with fail
            refine hm9.out.mono ?_
            rintro e w10 ⟨vp, rfl, hvp, hb10, -⟩
            obtain ⟨p10, n10, c10, rfl⟩ := hvp.slice
            have Hb10 := hiD (Hb9.out.trans (hb10.mono Hb9.out.size))
            have Hw10 := hiD (Hw9.out.trans (hb10.mono Hw9.out.size))
            have hc10 := hiD (hcmp2.out G w10 _ hGi.out.2 hvp (hrest.out _ Hb10.out))
            have hsh10 := hiD (hsh9.out.below hb10)
            clear hvp hb10
            by_cases hlt : R < D * G
            · have hcv : Hid (cmp3 (D * G) R = 1) := hiD (by unfold cmp3; rw [if_neg (by omega), if_pos hlt])
              rw [hcv.out] at hc10
              have hgl := hiD (guess_low hD0.out hGi.out.1 hlt)
              have hG1 : (1 : Int) ≤ G := by have := hgl.out.2; omega
              clear hlt
              go_wp2_with fail
              refine hc10.out.mono ?_
              rintro e w11 ⟨rfl, hb11⟩
              have Hw11 := hiD (Hw10.out.trans (hb11.mono Hw10.out.size))
              clear hb11
              go_wp2_with fail
              go_roundw
              case rel =>
                have hq : ∃ G' : Nat, Value.int .u64 ((G : Int) - 1) = .int .u64 (G' : Int) ∧ Hid (R / D ≤ G' ∧ G' ≤ 999999999) ∧ Below w7.heap.size w7 w11 := ⟨G - 1, by go_num, hiD ⟨hgl.out.1, by have := hGi.out.2; omega⟩, Hw11.out⟩
                first
                  | exact hq
                  | exact ⟨_, _, _, _, _, _, _, _, _, _, hq, rfl⟩
              case measure => simp [intOf]; omega
            · obtain ⟨cz, hcz⟩ : ∃ cz, Hid (cmp3 (D * G) R = cz) := ⟨_, hiD rfl⟩
              have hcz0 : decide ((0 : Int) < cz) = false := by
                rw [← hcz.out]; unfold cmp3
                simp; split
                · omega
                · omega
              rw [hcz.out] at hc10
              have hGq := hiD (guess_right hD0.out hGi.out.1 hlt)
              have hstep2 : Hid (DivInv B9 A V (M + 1) j (L.set j G) (R - G * D)) := hiD (by rw [hGq.out]; exact hstep.out)
              clear hlt
              go_wp2_with fail
              refine hc10.out.mono ?_
              rintro e w11 ⟨rfl, hb11⟩
              have Hw11 := hiD (Hw10.out.trans (hb11.mono Hw10.out.size))
              have hn11 := hiD (hno.out G w11 hGi.out.2)
              clear hb11
              go_wp2_with fail
              refine hn11.out.mono ?_
              rintro e w12 ⟨vg2, rfl, hvg2, hb12, -⟩
              obtain ⟨p12, n12, c12, rfl⟩ := hvg2.slice
              have Hw12 := hiD (Hw11.out.trans (hb12.mono Hw11.out.size))
              have hm12 := hiD (hmul.out G w12 _ hGi.out.2 hvg2 (hsh.out.below Hw12.out))
              clear hvg2 hb12
              go_wp2_with fail
              refine hm12.out.mono ?_
              rintro e w13 ⟨vp2, rfl, hvp2, hb13, -⟩
              obtain ⟨p13, n13, c13, rfl⟩ := hvp2.slice
              have Hw13 := hiD (Hw12.out.trans (hb13.mono Hw12.out.size))
              have hs13 := hiD (hsub.out G w13 _ hGq.out hvp2 (hrest.out _ (hb7.out.trans (Hw13.out.mono hb7.out.size))))
              clear hvp2 hb13
              go_wp2_with fail
              refine hs13.out.mono ?_
              rintro e w14 ⟨vr2, rfl, hvr2, hb14, hfr⟩
              obtain ⟨p14, n14, c14, rfl⟩ := hvr2.slice
              have Hw14 := hiD (Hw13.out.trans (hb14.mono Hw13.out.size))
              have hrow14 : Row w14 w4.heap.size 125 L := Below.row Hw14.out hrow.out hrow.out.lt
              have hcell14 := hrow14.cell j (by rw [hat.out.inv.len]; omega)
              have hfree14 := hrow14.free j
              have hap : Apart w4.heap.size (.slice p14 n14 c14) := hfr.apart (Nat.lt_of_lt_of_le hrow.out.lt Hw13.out.size)
              have hnext : Hid (DivAt w4 (w14.setCell ⟨w4.heap.size, j, none⟩ (.int .u64 (G : Int))) w4.heap.size A V (M + 1) j (R - G * D) (L.set j G) (.slice p14 n14 c14)) := hiD ⟨hvr2.set hap j _, hap, hrow14.set j G, ((hat.out.below.trans (hb7.out.mono hat.out.below.size)).trans (Hw14.out.mono (by have h1 := hat.out.below.size; have h2 := hb7.out.size; omega))).setCell (Nat.le_refl _) _, hstep2.out⟩
              clear hvr2 hb14 hfr hrow14 hap
              go_wp2_with fail
              go_roundw
              case rel => exact ⟨j, (j : Int) - 1, R - G * D, _, _, _, _, by omega, rfl, by omega, rfl, hnext⟩
              case measure => simp [intOf]
structure GcdAt (w wr : World) (a b K : Nat) (xv yv : Value) (x y : Nat) : Prop where
  rx : Nat9 wr xv x
  ry : Nat9 wr yv y
  xlt : x < B9 ^ K
  ylt : y < B9 ^ K
  eq : Nat.gcd x y = Nat.gcd a b
  below : Below w.heap.size w wr
theorem Nat9.unique {w : World} {v : Value} {x y : Nat} (h : Nat9 w v x) (k : Nat9 w v y) : x = y := by
  obtain ⟨p, n, c, l, rfl, h2, h3, h4, h5⟩ := h
  obtain ⟨p', n', c', l', e, k2, k3, k4, k5⟩ := k
  cases e
  have e : l = l' := by
    apply List.ext_getElem
    · rw [h3.len, k3.len]
    · intro i h1 h1'
      have hi : i < n := by rw [h3.len] at h1; exact h1
      obtain ⟨b, o, e1, _, c1⟩ := h3.opened (by omega)
      obtain ⟨b', o', e1', _, c1'⟩ := k3.opened (by omega)
      rw [e1] at e1'; cases e1'
      have h6 := c1 i hi
      rw [c1' i hi] at h6
      simp only [Option.some.injEq, Value.int.injEq, true_and] at h6
      rw [List.getD_eq_getElem?_getD, List.getD_eq_getElem?_getD, List.getElem?_eq_getElem h1, List.getElem?_eq_getElem h1'] at h6
      simp at h6; omega
  rw [← h5, ← k5, e]
theorem epsilon9 {w : World} {v : Value} {x : Nat} (h : Nat9 w v x) : (Classical.epsilon fun y => Nat9 w v y) = x :=
  (Classical.epsilon_spec (p := fun y => Nat9 w v y) ⟨x, h⟩).unique h
theorem natDiv_nat (u v : Value) (a b K : Nat) (w : World) (hK : K ≤ 900000) (ha : a < B9 ^ K) (hb : b < B9 ^ K) (hb0 : 0 < b) (hu : Nat9 w u a) (hv : Nat9 w v b) :
    Calls Tryz.prog 126 #[u, v] w (DivPost9 a b w) := by
  by_cases h : a < b
  · obtain ⟨p, n, c, x, rfl, h1, h2, h3, h4⟩ := hu
    exact natDiv_lt p n c x v a b K w (by omega) ha hb h h1 h2 h3 h4 hv
  · obtain ⟨p, n, c, x, rfl, h1, h2, h3, h4⟩ := hu
    obtain ⟨q, m, d, y, rfl, g1, g2, g3, g4⟩ := hv
    by_cases h5 : b < B9
    · exact natDiv_one p n c x q m d y a b K w (by omega) ha hb0 h5 (by omega) h1 h2 h3 h4 g1 g2 g3 g4
    · exact natDiv_long p n c x q m d y a b K w hK ha (by omega) (by omega) h1 h2 h3 h4 g1 g2 g3 g4
theorem natGcd_nat (u v : Value) (a b K : Nat) (w : World) (hK : K ≤ 900000) (ha : a < B9 ^ K) (hb : b < B9 ^ K) (hu : Nat9 w u a) (hv : Nat9 w v b) :
    Calls Tryz.prog 125 #[u, v] w fun e w' => ∃ g, e = .returned g ∧ Nat9 w' g (Nat.gcd a b) ∧ Below w.heap.size w w' := by
  obtain ⟨p0, n0, c0, rfl⟩ := hu.slice
  obtain ⟨q0, m0, d0, rfl⟩ := hv.slice
  have hst : Hid (GcdAt w w a b K (.slice p0 n0 c0) (.slice q0 m0 d0) a b) := hiD ⟨hu, hv, ha, hb, rfl, Below.refl _ _⟩
  have hKi := hiD hK
  clear hu hv ha hb hK
  go_enter Tryz.func125, Tryz.ntmps125
  go_wp2_with fail
  go_loopw [0, 1] (fun xv yv wr => ∃ (x y : Nat) (p : Option Addr) (n c : Nat) (q : Option Addr) (m d : Nat), xv = .slice p n c ∧ yv = .slice q m d ∧ Hid (GcdAt w wr a b K xv yv x y)) (fun _ yv wr => (Classical.epsilon fun y => Nat9 wr yv y))
  case atStart => exact ⟨a, b, _, _, _, _, _, _, rfl, rfl, hst⟩
  case round =>
    obtain ⟨x, y, p, n, c, q, m, d, rfl, rfl, hat⟩ := hrel
    by_cases h0 : y = 0
    · have hm0 : m = 0 := hat.out.ry.zero_iff.2 h0
      subst hm0
      have hfin : Hid (Nat9 wr (.slice p n c) (Nat.gcd a b)) := hiD (by
        have h := hat.out.eq
        rw [h0, Nat.gcd_zero_right] at h
        rw [← h]; exact hat.out.rx)
      clear h0
      go_wp2_with fail
      go_ret
      exact ⟨_, rfl, hfin.out, hat.out.below⟩
    · have hm0 : (0 : Int) < m := by
        have := (hat.out.ry.zero_iff (n := m)).1
        have h1 : m ≠ 0 := fun h => h0 (this h)
        omega
      have hdiv := hiD (natDiv_nat _ _ x y K wr hKi.out hat.out.xlt hat.out.ylt (by omega) hat.out.rx hat.out.ry)
      have H0 := hiD h0
      clear h0
      go_wp2_with fail
      refine hdiv.out.mono ?_
      rintro e w1 ⟨v1, r1, rfl, hv1, hr1, hb1⟩
      obtain ⟨p1, n1, c1, rfl⟩ := hv1.slice
      obtain ⟨p2, n2, c2, rfl⟩ := hr1.slice
      have hlt : x % y < y := Nat.mod_lt _ (by have := H0.out; omega)
      have hnext : Hid (GcdAt w w1 a b K (.slice q m d) (.slice p2 n2 c2) y (x % y)) := hiD ⟨hat.out.ry.below hb1, hr1, hat.out.ylt, by have := hat.out.ylt; omega, by rw [← hat.out.eq, Nat.gcd_comm y, ← Nat.gcd_rec, Nat.gcd_comm], hat.out.below.trans (hb1.mono hat.out.below.size)⟩
      have hmeas : Hid ((Classical.epsilon fun y => Nat9 w1 (.slice p2 n2 c2) y) < (Classical.epsilon fun y => Nat9 wr (.slice q m d) y)) := hiD (by
        rw [epsilon9 hnext.out.ry, epsilon9 hat.out.ry]; exact hlt)
      clear hv1 hr1 hb1 hlt
      go_wp2_with fail
      go_roundw
      case rel => exact ⟨y, x % y, _, _, _, _, _, _, rfl, rfl, hnext⟩
      case measure => exact hmeas.out
end Go.Proofs.YtaldangjhdddoaaGreatDoor
