/- Arithmetic for the document's natural numbers, to the base 10^9: a division digit by digit. -/
import Derived.Test.YtigidchicloleaaGreatDoorQA
import Derived.Maps.AppendAt
set_option maxRecDepth 100000
set_option maxHeartbeats 3200000
namespace Big
def B9 : Nat := 1000000000
theorem B9_eq : B9 = 1000000000 := rfl
theorem B9_pos : 0 < B9 := by rw [B9_eq]; omega
theorem val_drop_D (B : Nat) (l : List Nat) (m : Nat) : val B (l.drop m) = l.getD m 0 + B * val B (l.drop (m + 1)) := by
  by_cases h : m < l.length
  · rw [List.drop_eq_getElem_cons h, val_cons, List.getD_eq_getElem?_getD, List.getElem?_eq_getElem h]; rfl
  · rw [List.drop_eq_nil_of_le (by omega), List.drop_eq_nil_of_le (by omega), List.getD_eq_getElem?_getD, List.getElem?_eq_none (by omega)]; simp [val]
structure DivInv (B A V M j : Nat) (L : List Nat) (R : Nat) : Prop where
  len : L.length = M
  dig : Dig B L
  eq : A = val B (L.drop j) * V * B ^ j + R
  lt : R < V * B ^ j
theorem DivInv.start {B A V M : Nat} (hB : 0 < B) (h : A < V * B ^ M) : DivInv B A V M M (List.replicate M 0) A :=
  ⟨by simp, Dig.zeros hB M, by rw [List.drop_eq_nil_of_le (by simp)]; simp [val], h⟩
theorem digit_below {B V R j : Nat} (h : R < V * B ^ (j + 1)) (hp : 0 < V * B ^ j) : R / (V * B ^ j) < B := by
  rw [Nat.div_lt_iff_lt_mul hp]
  have : B * (V * B ^ j) = V * B ^ (j + 1) := by rw [Nat.pow_succ]; grind
  omega
theorem DivInv.step {B A V M j : Nat} {L : List Nat} {R : Nat} (hB : 0 < B) (hV : 0 < V) (h : DivInv B A V M (j + 1) L R) (hj : j < M) (q : Nat) (hq : q = R / (V * B ^ j)) :
    DivInv B A V M j (L.set j q) (R - q * (V * B ^ j)) := by
  have hp : 0 < V * B ^ j := Nat.mul_pos hV (Nat.pow_pos hB)
  have hqB : q < B := by rw [hq]; exact digit_below h.lt hp
  have hR : R = q * (V * B ^ j) + R % (V * B ^ j) := by rw [hq, Nat.mul_comm]; exact (Nat.div_add_mod R _).symm
  have hsub : R - q * (V * B ^ j) = R % (V * B ^ j) := by omega
  have hjl : j < L.length := by rw [h.len]; exact hj
  refine ⟨by rw [List.length_set]; exact h.len, h.dig.set j q hqB, ?_, ?_⟩
  · rw [val_drop_D, List.drop_set_of_lt (by omega)]
    have hg : (L.set j q).getD j 0 = q := by rw [List.getD_eq_getElem?_getD, List.getElem?_set_self hjl]; rfl
    rw [hg]
    refine quo_inv h.eq ?_
    rw [hsub]
    have : q * V * B ^ j = q * (V * B ^ j) := by rw [Nat.mul_assoc]
    omega
  · rw [hsub]; exact Nat.mod_lt _ hp
theorem DivInv.done {B A V M : Nat} {L : List Nat} {R : Nat} (h : DivInv B A V M 0 L R) : val B L = A / V ∧ R = A % V := by
  have h1 := h.eq
  have h2 := h.lt
  rw [Nat.pow_zero, Nat.mul_one] at h1 h2
  rw [List.drop_zero] at h1
  have hV : 0 < V := by omega
  constructor
  · rw [h1, Nat.mul_comm, Nat.mul_add_div hV, Nat.div_eq_of_lt h2]; rfl
  · rw [h1, Nat.mul_comm, Nat.mul_add_mod, Nat.mod_eq_of_lt h2]
theorem B9_pow (k : Nat) : B9 ^ k = 10 ^ (9 * k) := by
  rw [B9_eq, show (1000000000 : Nat) = 10 ^ 9 from rfl, ← Nat.pow_mul]
theorem sum_step {B p c c' a b s z x y : Nat} (h : z + p * c = x + y) (hs : s + B * c' = c + a + b) : (z + p * s) + p * B * c' = (x + p * a) + (y + p * b) := by
  have : p * (s + B * c') = p * (c + a + b) := by rw [hs]
  grind
theorem less_step {B p c c' a b s z x y : Nat} (h : z + y = x + p * c) (hs : s + b + c = a + B * c') : (z + p * s) + (y + p * b) = (x + p * a) + p * B * c' := by
  have : p * (s + b + c) = p * (a + B * c') := by rw [hs]
  grind
end Big
namespace Go.Proofs.YtigidchicloleaaGreatDoor
open Go.RowKit Big
def Nat9 (w : World) (v : Value) (x : Nat) : Prop := ∃ p n c l, v = .slice p n c ∧ (n ≤ c ∧ (p = none → c = 0)) ∧ Rd w p n l ∧ Canon B9 l ∧ val B9 l = x
theorem Nat9.below {w w' : World} {v : Value} {x : Nat} (h : Nat9 w v x) (hb : Below w.heap.size w w') : Nat9 w' v x := by
  obtain ⟨p, n, c, l, h1, h2, h3, h4⟩ := h
  exact ⟨p, n, c, l, h1, h2, h3.below hb, h4⟩
theorem Nat9.zero (w : World) : Nat9 w (.slice none 0 0) 0 := ⟨none, 0, 0, [], rfl, ⟨Nat.le_refl _, fun _ => rfl⟩, Rd.nil _ _, Canon.nil _, rfl⟩
theorem Nat9.slice {w : World} {v : Value} {x : Nat} (h : Nat9 w v x) : ∃ p n c, v = .slice p n c := by
  obtain ⟨p, n, c, _, h1, _⟩ := h
  exact ⟨p, n, c, h1⟩
def Fresh (B : Nat) (v : Value) : Prop := ∀ b o n c, v = .slice (some ⟨b, o, none⟩) n c → B ≤ b
def Post9 (x : Nat) (w : World) (e : Ending) (w' : World) : Prop := ∃ v, e = .returned v ∧ Nat9 w' v x ∧ Below w.heap.size w w' ∧ Fresh w.heap.size v
theorem own_rd {w : World} {base n : Nat} {v : Value} {L : List Nat} (h : w.ownsRow base 151 1 v n (u64s L)) : ∃ p c, v = .slice p n c ∧ (n ≤ c ∧ (p = none → c = 0)) ∧ Rd w p n L ∧ ∀ b o, p = some ⟨b, o, none⟩ → base ≤ b := by
  obtain ⟨h1, h2⟩ := h
  rw [u64s_length, Nat.mul_one] at h1
  rcases h2 with ⟨rfl, rfl⟩ | ⟨g, cap, cur, rfl, hg, hh, hn, hm, hs, hc⟩
  · exact ⟨none, 0, rfl, ⟨Nat.le_refl _, fun _ => rfl⟩, by rw [List.eq_nil_of_length_eq_zero h1]; exact Rd.nil _ _, fun b o h => by cases h⟩
  · refine ⟨_, cap, rfl, ⟨hn, fun h => by cases h⟩, ⟨h1, ?_⟩, fun b o h => by cases h; exact hg⟩
    by_cases h0 : n = 0
    · exact .inl h0
    · refine .inr ⟨g, 0, rfl, (Array.getElem?_eq_some_iff.1 hh).1, fun j hj => ?_⟩
      rw [Nat.mul_one] at hc
      have hjl : j < L.length := by omega
      have e : cur[j]? = (u64s L)[j]? := by
        rw [← hc, List.getElem?_take_of_lt hj, Array.getElem?_toList]
      rw [Nat.zero_add]
      simp only [World.cell?, hh]
      simp [e, u64s, List.getD_eq_getElem?_getD, hjl]
structure Acc (w wr : World) (v : Value) (L : List Nat) : Prop where
  own : wr.ownsRow w.heap.size 151 1 v L.length (u64s L)
  below : Below w.heap.size w wr
theorem Acc.nil (w wr : World) (h : Below w.heap.size w wr) : Acc w wr (.slice none 0 0) [] := ⟨World.ownsRow_nil _ _ _ _, h⟩
theorem Acc.next {w wr w5 : World} {v v5 : Value} {L : List Nat} {m x : Nat} {o : Obj} (h : Acc w wr v L) (hm : m = L.length + 1) (hown : w5.ownsRow w.heap.size 151 1 v5 m (u64s L ++ [.int .u64 (x : Int)])) (hg : (wr.alloc o).grownBy w5 v.ownBlock) : Acc w w5 v5 (L ++ [x]) := by
  subst hm
  refine ⟨?_, ?_⟩
  · have e : u64s (L ++ [x]) = u64s L ++ [.int .u64 (x : Int)] := by simp [u64s]
    rw [e, List.length_append]; exact hown
  · exact (h.below.alloc h.below.size o).grown hg (by simp; have := h.below.size; omega) (fun k hk => (h.own.lt k hk).1)
theorem Acc.drewN {w wr : World} {v : Value} {L : List Nat} (h : Acc w wr v L) (k : Nat) : Acc w (wr.drewN k) v L := ⟨h.own, h.below.trans (below_drewN _ _ _)⟩
theorem Acc.nat {w wr : World} {v : Value} {L : List Nat} (h : Acc w wr v L) (hc : Canon B9 L) : Post9 (val B9 L) w (.returned v) wr := by
  obtain ⟨p, c, rfl, hn, hr, hf⟩ := own_rd h.own
  exact ⟨_, rfl, ⟨p, _, c, L, rfl, hn, hr, hc, rfl⟩, h.below, fun b o n c' h => by cases h; exact hf b o rfl⟩
theorem underlying36 : Tryz.prog.underlying 110 = some (.slice 151) := by kernel_rfl
theorem Canon.of_ge {B : Nat} {L : List Nat} {k : Nat} (hd : Dig B L) (hk : L.length = k + 1) (h : B ^ k ≤ val B L) : Canon B L := by
  refine Canon.of_last hd k hk ?_
  intro h0
  have h1 := val_take_succD B L k
  rw [List.take_of_length_le (by omega), h0, Nat.mul_zero, Nat.add_zero] at h1
  have h2 := val_lt (L.take k) (hd.take k)
  rw [List.length_take, Nat.min_eq_left (by omega)] at h2
  omega
structure AddInv9 (x y : List Nat) (k c : Nat) (L : List Nat) : Prop where
  len : L.length = k
  dig : Dig B9 L
  car : c ≤ 1
  eq : val B9 L + B9 ^ k * c = val B9 (x.take k) + val B9 (y.take k)
  top : k ≤ max x.length y.length ∨ (k = max x.length y.length + 1 ∧ c = 0 ∧ B9 ^ max x.length y.length ≤ val B9 x + val B9 y)
theorem AddInv9.start (x y : List Nat) : AddInv9 x y 0 0 [] := ⟨rfl, Dig.nil _, by omega, by simp [val], .inl (Nat.zero_le _)⟩
theorem AddInv9.step {x y : List Nat} {k c : Nat} {L : List Nat} (h : AddInv9 x y k c L) (dx : Dig B9 x) (dy : Dig B9 y) (a b s : Nat) (ha : x.getD k 0 = a) (hb : y.getD k 0 = b) (hs : s = c + a + b) (hg : k < max x.length y.length ∨ c = 1) :
    AddInv9 x y (k + 1) (s / 1000000000) (L ++ [s % 1000000000]) := by
  have h1 := dx.getD B9_pos k
  have h2 := dy.getD B9_pos k
  rw [ha] at h1; rw [hb] at h2
  have h3 := h.car
  have e9 := B9_eq
  refine ⟨by rw [List.length_append, h.len]; rfl, h.dig.append (Dig.one (by omega)), by omega, ?_, ?_⟩
  · rw [val_snoc, h.len, val_take_succD, val_take_succD, ha, hb, Nat.pow_succ]
    exact sum_step h.eq (by rw [B9_eq]; omega)
  · rcases h.top with h4 | ⟨_, h4, _⟩
    · by_cases h5 : k < max x.length y.length
      · exact .inl (by omega)
      · have hc : c = 1 := by omega
        have hk : k = max x.length y.length := by omega
        have ha0 : a = 0 := by rw [← ha, List.getD_eq_getElem?_getD, List.getElem?_eq_none (by omega)]; rfl
        have hb0 : b = 0 := by rw [← hb, List.getD_eq_getElem?_getD, List.getElem?_eq_none (by omega)]; rfl
        refine .inr ⟨by omega, by omega, ?_⟩
        have h6 := h.eq
        rw [hc, List.take_of_length_le (by omega), List.take_of_length_le (by omega), Nat.mul_one] at h6
        rw [← hk]; omega
    · omega
theorem AddInv9.done {x y : List Nat} {k : Nat} {L : List Nat} (h : AddInv9 x y k 0 L) (cx : Canon B9 x) (cy : Canon B9 y) (h1 : x.length ≤ k) (h2 : y.length ≤ k) : Canon B9 L ∧ val B9 L = val B9 x + val B9 y := by
  have h3 := h.eq
  rw [List.take_of_length_le (by omega), List.take_of_length_le (by omega), Nat.mul_zero, Nat.add_zero] at h3
  refine ⟨?_, h3⟩
  by_cases h0 : k = 0
  · have := h.len
    rw [h0] at this
    rw [List.eq_nil_of_length_eq_zero this]; exact Canon.nil _
  · obtain ⟨j, rfl⟩ : ∃ j, k = j + 1 := ⟨k - 1, by omega⟩
    refine Canon.of_ge h.dig h.len ?_
    rw [h3]
    rcases h.top with h4 | ⟨h4, _, h5⟩
    · by_cases h6 : x.length ≤ y.length
      · have := cy.pow_le j (by omega); omega
      · have := cx.pow_le j (by omega); omega
    · have : j = max x.length y.length := by omega
      rw [this]; exact h5
end Go.Proofs.YtigidchicloleaaGreatDoor
