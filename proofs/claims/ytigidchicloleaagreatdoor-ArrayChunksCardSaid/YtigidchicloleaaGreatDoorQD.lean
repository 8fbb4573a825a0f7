/- Plain arithmetic of numbers written as lists of digits to a base, the least significant one first. Slices of uint64 in memory, read as lists of digits. -/
import Derived.Test.YtigidchicloleaaGreatDoorGA
import Derived.WalkKit
import Derived.WalkSpells
import Derived.WalkLawsBesides
import Derived.Lib.Hide
import Derived.Laws.Externs
import Derived.Shelf.Spec.BitsCarry
import Derived.Laws.CopyOwn
import Derived.Maps.AppendAt
import Derived.Deep.LoopGhost
import Derived.Deep.RegionHeld3
import Derived.Deep.RegionWith
set_option maxRecDepth 100000
set_option maxHeartbeats 800000
namespace Go.Proofs.YtigidchicloleaaGreatDoor
end Go.Proofs.YtigidchicloleaaGreatDoor
namespace Big
theorem Canon.of_last {B : Nat} {l : List Nat} (h : Dig B l) (k : Nat) (hk : l.length = k + 1) (h0 : l.getD k 0 ≠ 0) : Canon B l := by
  refine ⟨h, ?_⟩
  rw [List.getLast?_eq_getElem?, hk, Nat.add_sub_cancel]
  rw [List.getD_eq_getElem?_getD] at h0
  intro e; rw [e] at h0; simp at h0
end Big
namespace Go.Proofs.YtigidchicloleaaGreatDoor
open Go.RowKit
end Go.Proofs.YtigidchicloleaaGreatDoor
namespace Go.Proofs.YtigidchicloleaaGreatDoor
open Go.RowKit Big
end Go.Proofs.YtigidchicloleaaGreatDoor
set_option maxRecDepth 100000
set_option maxHeartbeats 3200000
namespace Big
def B9 : Nat := 1000000000
theorem B9_eq : B9 = 1000000000 := rfl
theorem B9_pos : 0 < B9 := by rw [B9_eq]; omega
theorem val_drop_D (B : Nat) (l : List Nat) (m : Nat) : val B (l.drop m) = l.getD m 0 + B * val B (l.drop (m + 1)) := by
  by_cases h : m < l.length
  · rw [List.drop_eq_getElem_cons h, val_cons, List.getD_eq_getElem?_getD, List.getElem?_eq_getElem h]; rfl
  · rw [List.drop_eq_nil_of_le (by omega), List.drop_eq_nil_of_le (by omega), List.getD_eq_getElem?_getD, List.getElem?_eq_none (by omega)]; simp [val]
structure DivInv (B A V M j : Nat) (L : List Nat) (R : Nat) : Prop where
  len : L.length = M
  dig : Dig B L
  eq : A = val B (L.drop j) * V * B ^ j + R
  lt : R < V * B ^ j
theorem DivInv.start {B A V M : Nat} (hB : 0 < B) (h : A < V * B ^ M) : DivInv B A V M M (List.replicate M 0) A :=
  ⟨by simp, Dig.zeros hB M, by rw [List.drop_eq_nil_of_le (by simp)]; simp [val], h⟩
theorem digit_below {B V R j : Nat} (h : R < V * B ^ (j + 1)) (hp : 0 < V * B ^ j) : R / (V * B ^ j) < B := by
  rw [Nat.div_lt_iff_lt_mul hp]
  have : B * (V * B ^ j) = V * B ^ (j + 1) := by rw [Nat.pow_succ]; grind
  omega
theorem DivInv.step {B A V M j : Nat} {L : List Nat} {R : Nat} (hB : 0 < B) (hV : 0 < V) (h : DivInv B A V M (j + 1) L R) (hj : j < M) (q : Nat) (hq : q = R / (V * B ^ j)) :
    DivInv B A V M j (L.set j q) (R - q * (V * B ^ j)) := by
  have hp : 0 < V * B ^ j := Nat.mul_pos hV (Nat.pow_pos hB)
  have hqB : q < B := by rw [hq]; exact digit_below h.lt hp
  have hR : R = q * (V * B ^ j) + R % (V * B ^ j) := by rw [hq, Nat.mul_comm]; exact (Nat.div_add_mod R _).symm
  have hsub : R - q * (V * B ^ j) = R % (V * B ^ j) := by omega
  have hjl : j < L.length := by rw [h.len]; exact hj
  refine ⟨by rw [List.length_set]; exact h.len, h.dig.set j q hqB, ?_, ?_⟩
  · rw [val_drop_D, List.drop_set_of_lt (by omega)]
    have hg : (L.set j q).getD j 0 = q := by rw [List.getD_eq_getElem?_getD, List.getElem?_set_self hjl]; rfl
    rw [hg]
    refine quo_inv h.eq ?_
    rw [hsub]
    have : q * V * B ^ j = q * (V * B ^ j) := by rw [Nat.mul_assoc]
    omega
  · rw [hsub]; exact Nat.mod_lt _ hp
theorem DivInv.done {B A V M : Nat} {L : List Nat} {R : Nat} (h : DivInv B A V M 0 L R) : val B L = A / V ∧ R = A % V := by
  have h1 := h.eq
  have h2 := h.lt
  rw [Nat.pow_zero, Nat.mul_one] at h1 h2
  rw [List.drop_zero] at h1
  have hV : 0 < V := by omega
  constructor
  · rw [h1, Nat.mul_comm, Nat.mul_add_div hV, Nat.div_eq_of_lt h2]; rfl
  · rw [h1, Nat.mul_comm, Nat.mul_add_mod, Nat.mod_eq_of_lt h2]
theorem B9_pow (k : Nat) : B9 ^ k = 10 ^ (9 * k) := by
  rw [B9_eq, show (1000000000 : Nat) = 10 ^ 9 from rfl, ← Nat.pow_mul]
theorem sum_step {B p c c' a b s z x y : Nat} (h : z + p * c = x + y) (hs : s + B * c' = c + a + b) : (z + p * s) + p * B * c' = (x + p * a) + (y + p * b) := by
  have : p * (s + B * c') = p * (c + a + b) := by rw [hs]
  grind
theorem less_step {B p c c' a b s z x y : Nat} (h : z + y = x + p * c) (hs : s + b + c = a + B * c') : (z + p * s) + (y + p * b) = (x + p * a) + p * B * c' := by
  have : p * (s + b + c) = p * (a + B * c') := by rw [hs]
  grind
end Big
namespace Go.Proofs.YtigidchicloleaaGreatDoor
open Go.RowKit Big
def Nat9 (w : World) (v : Value) (x : Nat) : Prop := ∃ p n c l, v = .slice p n c ∧ (n ≤ c ∧ (p = none → c = 0)) ∧ Rd w p n l ∧ Canon B9 l ∧ val B9 l = x
theorem Nat9.below {w w' : World} {v : Value} {x : Nat} (h : Nat9 w v x) (hb : Below w.heap.size w w') : Nat9 w' v x := by
  obtain ⟨p, n, c, l, h1, h2, h3, h4⟩ := h
  exact ⟨p, n, c, l, h1, h2, h3.below hb, h4⟩
theorem Nat9.zero (w : World) : Nat9 w (.slice none 0 0) 0 := ⟨none, 0, 0, [], rfl, ⟨Nat.le_refl _, fun _ => rfl⟩, Rd.nil _ _, Canon.nil _, rfl⟩
theorem Nat9.slice {w : World} {v : Value} {x : Nat} (h : Nat9 w v x) : ∃ p n c, v = .slice p n c := by
  obtain ⟨p, n, c, _, h1, _⟩ := h
  exact ⟨p, n, c, h1⟩
def Fresh (B : Nat) (v : Value) : Prop := ∀ b o n c, v = .slice (some ⟨b, o, none⟩) n c → B ≤ b
def Post9 (x : Nat) (w : World) (e : Ending) (w' : World) : Prop := ∃ v, e = .returned v ∧ Nat9 w' v x ∧ Below w.heap.size w w' ∧ Fresh w.heap.size v
theorem own_rd {w : World} {base n : Nat} {v : Value} {L : List Nat} (h : w.ownsRow base 151 1 v n (u64s L)) : ∃ p c, v = .slice p n c ∧ (n ≤ c ∧ (p = none → c = 0)) ∧ Rd w p n L ∧ ∀ b o, p = some ⟨b, o, none⟩ → base ≤ b := by
  obtain ⟨h1, h2⟩ := h
  rw [u64s_length, Nat.mul_one] at h1
  rcases h2 with ⟨rfl, rfl⟩ | ⟨g, cap, cur, rfl, hg, hh, hn, hm, hs, hc⟩
  · exact ⟨none, 0, rfl, ⟨Nat.le_refl _, fun _ => rfl⟩, by rw [List.eq_nil_of_length_eq_zero h1]; exact Rd.nil _ _, fun b o h => by cases h⟩
  · refine ⟨_, cap, rfl, ⟨hn, fun h => by cases h⟩, ⟨h1, ?_⟩, fun b o h => by cases h; exact hg⟩
    by_cases h0 : n = 0
    · exact .inl h0
    · refine .inr ⟨g, 0, rfl, (Array.getElem?_eq_some_iff.1 hh).1, fun j hj => ?_⟩
      rw [Nat.mul_one] at hc
      have hjl : j < L.length := by omega
      have e : cur[j]? = (u64s L)[j]? := by
        rw [← hc, List.getElem?_take_of_lt hj, Array.getElem?_toList]
      rw [Nat.zero_add]
      simp only [World.cell?, hh]
      simp [e, u64s, List.getD_eq_getElem?_getD, hjl]
structure Acc (w wr : World) (v : Value) (L : List Nat) : Prop where
  own : wr.ownsRow w.heap.size 151 1 v L.length (u64s L)
  below : Below w.heap.size w wr
theorem Acc.nil (w wr : World) (h : Below w.heap.size w wr) : Acc w wr (.slice none 0 0) [] := ⟨World.ownsRow_nil _ _ _ _, h⟩
theorem Acc.next {w wr w5 : World} {v v5 : Value} {L : List Nat} {m x : Nat} {o : Obj} (h : Acc w wr v L) (hm : m = L.length + 1) (hown : w5.ownsRow w.heap.size 151 1 v5 m (u64s L ++ [.int .u64 (x : Int)])) (hg : (wr.alloc o).grownBy w5 v.ownBlock) : Acc w w5 v5 (L ++ [x]) := by
  subst hm
  refine ⟨?_, ?_⟩
  · have e : u64s (L ++ [x]) = u64s L ++ [.int .u64 (x : Int)] := by simp [u64s]
    rw [e, List.length_append]; exact hown
  · exact (h.below.alloc h.below.size o).grown hg (by simp; have := h.below.size; omega) (fun k hk => (h.own.lt k hk).1)
theorem Acc.drewN {w wr : World} {v : Value} {L : List Nat} (h : Acc w wr v L) (k : Nat) : Acc w (wr.drewN k) v L := ⟨h.own, h.below.trans (below_drewN _ _ _)⟩
theorem Acc.nat {w wr : World} {v : Value} {L : List Nat} (h : Acc w wr v L) (hc : Canon B9 L) : Post9 (val B9 L) w (.returned v) wr := by
  obtain ⟨p, c, rfl, hn, hr, hf⟩ := own_rd h.own
  exact ⟨_, rfl, ⟨p, _, c, L, rfl, hn, hr, hc, rfl⟩, h.below, fun b o n c' h => by cases h; exact hf b o rfl⟩
theorem underlying36 : Tryz.prog.underlying 110 = some (.slice 151) := by kernel_rfl
theorem Canon.of_ge {B : Nat} {L : List Nat} {k : Nat} (hd : Dig B L) (hk : L.length = k + 1) (h : B ^ k ≤ val B L) : Canon B L := by
  refine Canon.of_last hd k hk ?_
  intro h0
  have h1 := val_take_succD B L k
  rw [List.take_of_length_le (by omega), h0, Nat.mul_zero, Nat.add_zero] at h1
  have h2 := val_lt (L.take k) (hd.take k)
  rw [List.length_take, Nat.min_eq_left (by omega)] at h2
  omega
structure AddInv9 (x y : List Nat) (k c : Nat) (L : List Nat) : Prop where
  len : L.length = k
  dig : Dig B9 L
  car : c ≤ 1
  eq : val B9 L + B9 ^ k * c = val B9 (x.take k) + val B9 (y.take k)
  top : k ≤ max x.length y.length ∨ (k = max x.length y.length + 1 ∧ c = 0 ∧ B9 ^ max x.length y.length ≤ val B9 x + val B9 y)
theorem AddInv9.start (x y : List Nat) : AddInv9 x y 0 0 [] := ⟨rfl, Dig.nil _, by omega, by simp [val], .inl (Nat.zero_le _)⟩
theorem AddInv9.step {x y : List Nat} {k c : Nat} {L : List Nat} (h : AddInv9 x y k c L) (dx : Dig B9 x) (dy : Dig B9 y) (a b s : Nat) (ha : x.getD k 0 = a) (hb : y.getD k 0 = b) (hs : s = c + a + b) (hg : k < max x.length y.length ∨ c = 1) :
    AddInv9 x y (k + 1) (s / 1000000000) (L ++ [s % 1000000000]) := by
  have h1 := dx.getD B9_pos k
  have h2 := dy.getD B9_pos k
  rw [ha] at h1; rw [hb] at h2
  have h3 := h.car
  have e9 := B9_eq
  refine ⟨by rw [List.length_append, h.len]; rfl, h.dig.append (Dig.one (by omega)), by omega, ?_, ?_⟩
  · rw [val_snoc, h.len, val_take_succD, val_take_succD, ha, hb, Nat.pow_succ]
    exact sum_step h.eq (by rw [B9_eq]; omega)
  · rcases h.top with h4 | ⟨_, h4, _⟩
    · by_cases h5 : k < max x.length y.length
      · exact .inl (by omega)
      · have hc : c = 1 := by omega
        have hk : k = max x.length y.length := by omega
        have ha0 : a = 0 := by rw [← ha, List.getD_eq_getElem?_getD, List.getElem?_eq_none (by omega)]; rfl
        have hb0 : b = 0 := by rw [← hb, List.getD_eq_getElem?_getD, List.getElem?_eq_none (by omega)]; rfl
        refine .inr ⟨by omega, by omega, ?_⟩
        have h6 := h.eq
        rw [hc, List.take_of_length_le (by omega), List.take_of_length_le (by omega), Nat.mul_one] at h6
        rw [← hk]; omega
    · omega
theorem AddInv9.done {x y : List Nat} {k : Nat} {L : List Nat} (h : AddInv9 x y k 0 L) (cx : Canon B9 x) (cy : Canon B9 y) (h1 : x.length ≤ k) (h2 : y.length ≤ k) : Canon B9 L ∧ val B9 L = val B9 x + val B9 y := by
  have h3 := h.eq
  rw [List.take_of_length_le (by omega), List.take_of_length_le (by omega), Nat.mul_zero, Nat.add_zero] at h3
  refine ⟨?_, h3⟩
  by_cases h0 : k = 0
  · have := h.len
    rw [h0] at this
    rw [List.eq_nil_of_length_eq_zero this]; exact Canon.nil _
  · obtain ⟨j, rfl⟩ : ∃ j, k = j + 1 := ⟨k - 1, by omega⟩
    refine Canon.of_ge h.dig h.len ?_
    rw [h3]
    rcases h.top with h4 | ⟨h4, _, h5⟩
    · by_cases h6 : x.length ≤ y.length
      · have := cy.pow_le j (by omega); omega
      · have := cx.pow_le j (by omega); omega
    · have : j = max x.length y.length := by omega
      rw [this]; exact h5
end Go.Proofs.YtigidchicloleaaGreatDoor
set_option maxHeartbeats 3200000
set_option maxRecDepth 100000
namespace Go.Proofs.YtigidchicloleaaGreatDoor
open Go.RowKit Big
structure SubInv9 (x y : List Nat) (k d : Nat) (L : List Nat) : Prop where
  len : L.length = k
  dig : Dig B9 L
  owe : d ≤ 1
  eq : val B9 L + val B9 (y.take k) = val B9 (x.take k) + B9 ^ k * d
theorem SubInv9.start (x y : List Nat) : SubInv9 x y 0 0 [] := ⟨rfl, Dig.nil _, by omega, by simp [val]⟩
theorem SubInv9.step {x y : List Nat} {k d : Nat} {L : List Nat} (h : SubInv9 x y k d L) (_dx : Dig B9 x) (_dy : Dig B9 y) (a b s d' : Nat) (ha : x.getD k 0 = a) (hb : y.getD k 0 = b) (hs : s + b + d = a + 1000000000 * d') (hd : d' ≤ 1) (hs9 : s < 1000000000) :
    SubInv9 x y (k + 1) d' (L ++ [s]) := by
  refine ⟨by rw [List.length_append, h.len]; rfl, h.dig.append (Dig.one (by rw [B9_eq]; exact hs9)), hd, ?_⟩
  rw [val_snoc, h.len, val_take_succD, val_take_succD, ha, hb, Nat.pow_succ]
  exact less_step h.eq (by rw [B9_eq]; exact hs)
theorem SubInv9.done {x y : List Nat} {k d : Nat} {L : List Nat} (h : SubInv9 x y k d L) (h1 : x.length = k) (h2 : y.length ≤ k) (hle : val B9 y ≤ val B9 x) : val B9 L = val B9 x - val B9 y := by
  have h3 := h.eq
  rw [List.take_of_length_le (by omega), List.take_of_length_le (by omega)] at h3
  have h4 := val_lt L h.dig
  rw [h.len] at h4
  have h5 : d = 0 := by
    apply Nat.eq_zero_of_not_pos; intro h6
    have : B9 ^ k * 1 ≤ B9 ^ k * d := Nat.mul_le_mul_left _ h6
    omega
  subst h5
  omega
structure MulIn9 (L0 : List Nat) (i x : Nat) (y : List Nat) (k c : Nat) (L : List Nat) : Prop where
  put : Put L0 i k L
  dig : Dig B9 L
  car : c < B9
  eq : val B9 (seg L i k) + B9 ^ k * c = val B9 (seg L0 i k) + val B9 (y.take k) * x
theorem MulIn9.start {L0 : List Nat} (h : Dig B9 L0) (i x : Nat) (y : List Nat) : MulIn9 L0 i x y 0 0 L0 :=
  ⟨Put.refl _ _, h, B9_pos, by simp [seg_zero, val]⟩
theorem MulIn9.step {L0 L : List Nat} {i x k c : Nat} {y : List Nat} (h : MulIn9 L0 i x y k c L) (hk : i + k < L0.length) (a b : Nat) (ha : L.getD (i + k) 0 = a) (hb : y.getD k 0 = b) (dx : x < B9) (db : b < B9) :
    MulIn9 L0 i x y (k + 1) ((a + x * b + c) / B9) (L.set (i + k) ((a + x * b + c) % B9)) := by
  have hlen := h.put.length
  have ha9 : a < B9 := by rw [← ha]; exact h.dig.getD B9_pos _
  have ha0 : L0.getD (i + k) 0 = a := by rw [← h.put.getD (i + k) (Nat.le_refl _)]; exact ha
  have hm : (a + x * b + c) % B9 + B9 * ((a + x * b + c) / B9) = a + b * x + c := by
    rw [Nat.mod_add_div, Nat.mul_comm x b]
  refine ⟨h.put.set _, h.dig.set _ _ (Nat.mod_lt _ B9_pos), ?_, ?_⟩
  · rw [Nat.div_lt_iff_lt_mul B9_pos]
    have h1 : x * b ≤ (B9 - 1) * (B9 - 1) := Nat.mul_le_mul (by omega) (by omega)
    have h2 : (B9 - 1) * (B9 - 1) + 2 * (B9 - 1) < B9 * B9 := by rw [B9_eq]; decide
    have h3 := h.car
    omega
  · rw [h.put.seg_set (by omega), val_snoc, seg_length _ _ _ (by omega), seg_succ L0 i k hk, val_snoc, seg_length _ _ _ (by omega), ha0, val_take_succD, hb, Nat.pow_succ]
    exact addmul_step h.eq hm
structure MulInv9 (x y : List Nat) (i : Nat) (L : List Nat) : Prop where
  len : L.length = x.length + y.length
  dig : Dig B9 L
  eq : val B9 (seg L 0 (y.length + i)) = val B9 y * val B9 (x.take i)
  zero : ∀ j, y.length + i ≤ j → j < x.length + y.length → L.getD j 0 = 0
theorem MulInv9.start (x y : List Nat) : MulInv9 x y 0 (List.replicate (x.length + y.length) 0) :=
  ⟨by simp, Dig.zeros B9_pos _, by simp [seg, val, val_zeros], fun j _ h => by simp [List.getD_eq_getElem?_getD, h]⟩
theorem seg_split (M : List Nat) (a b : Nat) : seg M 0 (a + b) = seg M 0 a ++ seg M a b := by
  simp only [seg, List.drop_zero]; rw [List.take_add]
theorem MulInv9.step {x y : List Nat} {i c : Nat} {L L' : List Nat} (h : MulInv9 x y i L) (hi : i < x.length) (a : Nat) (ha : x.getD i 0 = a) (hin : MulIn9 L i a y y.length c L') :
    MulInv9 x y (i + 1) (L'.set (i + y.length) c) := by
  have hput2 := hin.put.set c
  have hlen : (L'.set (i + y.length) c).length = L.length := hput2.length
  have hL := h.len
  have h1 : seg (L'.set (i + y.length) c) 0 (y.length + (i + 1)) = seg L 0 i ++ (seg L' i y.length ++ [c]) := by
    rw [show y.length + (i + 1) = i + (y.length + 1) from by omega, seg_split, hput2.before_seg 0 i (by omega), hin.put.seg_set (by omega)]
  have h2 : seg L 0 (y.length + i) = seg L 0 i ++ seg L i y.length := by rw [show y.length + i = i + y.length from by omega, seg_split]
  have hl0 : (seg L 0 i).length = i := seg_length _ _ _ (by omega)
  have hl1 : (seg L' i y.length).length = y.length := seg_length _ _ _ (by rw [hin.put.length]; omega)
  refine ⟨by rw [hlen]; exact hL, hin.dig.set _ _ hin.car, ?_, ?_⟩
  · have h3 := h.eq
    have h4 := hin.eq
    rw [List.take_of_length_le (Nat.le_refl _)] at h4
    rw [h1, val_append, val_snoc, hl0, hl1, h4, val_take_succD, ha]
    rw [h2, val_append, hl0] at h3
    rw [Nat.mul_add, Nat.mul_add, ← h3]
    grind
  · intro j h3 h4
    rw [hput2.getD j (by omega)]; exact h.zero j (by omega) h4
theorem MulInv9.done {x y : List Nat} {L : List Nat} (h : MulInv9 x y x.length L) : val B9 L = val B9 x * val B9 y := by
  have h1 := h.eq
  rw [seg_all L _ (by rw [h.len]; omega), List.take_of_length_le (Nat.le_refl _)] at h1
  rw [h1, Nat.mul_comm]
def Apart (g : Nat) (v : Value) : Prop := ∀ b o n c, v = .slice (some ⟨b, o, none⟩) n c → b ≠ g
theorem Nat9.set {w : World} {v : Value} {x g : Nat} (h : Nat9 w v x) (ha : Apart g v) (k : Nat) (u : Value) : Nat9 (w.setCell ⟨g, k, none⟩ u) v x := by
  obtain ⟨p, n, c, l, rfl, h2, h3, h4⟩ := h
  exact ⟨p, n, c, l, rfl, h2, ((Only.refl g w).setCell k u).rd h3 (.inr fun b o hp => ha b o n c (by rw [hp])), h4⟩
theorem Nat9.apart {w : World} {v : Value} {x g : Nat} (h : Nat9 w v x) (hg : w.heap.size ≤ g) (hx : x ≠ 0) : Apart g v := by
  obtain ⟨p, n, c, l, rfl, h2, h3, h4, h5⟩ := h
  intro b o n' c' e
  cases e
  have hn : 0 < n := by
    apply Nat.pos_of_ne_zero; rintro rfl
    have := h3.len
    rw [List.eq_nil_of_length_eq_zero this] at h5
    exact hx h5.symm
  obtain ⟨b', o', e', hb, _⟩ := h3.opened hn
  cases e'
  omega
theorem Fresh.apart {g B : Nat} {v : Value} (h : Fresh B v) (hg : g < B) : Apart g v := fun b o n c e => by have := h b o n c e; omega
theorem Nat9.pos {w : World} {v : Value} {x : Nat} (h : Nat9 w v x) (hx : x ≠ 0) : ∃ b o k c l, v = .slice (some ⟨b, o, none⟩) (k + 1) c ∧ k + 1 ≤ c ∧ Rd w (some ⟨b, o, none⟩) (k + 1) l ∧ Canon B9 l ∧ val B9 l = x ∧ b < w.heap.size := by
  obtain ⟨p, n, c, l, rfl, h2, h3, h4, h5⟩ := h
  have hn : 0 < n := by
    apply Nat.pos_of_ne_zero; rintro rfl
    have := h3.len
    rw [List.eq_nil_of_length_eq_zero this] at h5
    exact hx h5.symm
  obtain ⟨k, rfl⟩ : ∃ k, n = k + 1 := ⟨n - 1, by omega⟩
  obtain ⟨b', o', e', hb, _⟩ := h3.opened hn
  cases e'
  exact ⟨b', o', k, c, l, rfl, h2.1, h3, h4, h5, hb⟩
end Go.Proofs.YtigidchicloleaaGreatDoor
set_option maxHeartbeats 12800000
set_option maxRecDepth 100000
namespace Go.Proofs.YtigidchicloleaaGreatDoor
open Go.RowKit Big
theorem pow9_mono {a K L : Nat} (h : a < B9 ^ K) (hKL : K ≤ L) : a < B9 ^ L :=
  Nat.lt_of_lt_of_le h (Nat.pow_le_pow_right B9_pos hKL)
theorem pow9_mul {a b K L : Nat} (ha : a < B9 ^ K) (hb : b < B9 ^ L) : a * b < B9 ^ (K + L) := by
  rw [Nat.pow_add]
  exact Nat.mul_lt_mul'' ha hb
end Go.Proofs.YtigidchicloleaaGreatDoor
set_option maxHeartbeats 3200000
set_option maxRecDepth 100000
namespace Go.Proofs.YtigidchicloleaaGreatDoor
open Go.RowKit Big
variable {B : Nat} {s : Bool} {u1 v1 : Value} {t : Bool} {u2 v2 : Value} {w0 W W' : World}
end Go.Proofs.YtigidchicloleaaGreatDoor
namespace Big
theorem natCast_ne {b : Nat} (h : 0 < b) : (b : Rat) ≠ 0 := by
  intro e
  have : ((b : Int) : Rat) = ((0 : Int) : Rat) := by simpa using e
  have := Rat.intCast_inj.1 this
  omega
theorem ratv_drop (s : Bool) (a b : Nat) : ratv (s && !(a == 0)) a b = ratv s a b := by
  cases s
  · rfl
  · by_cases h : a = 0
    · subst h; simp [ratv]
    · have h1 : (a == 0) = false := by simpa using h
      rw [h1]; rfl
theorem ratv_scale {s : Bool} {a b k : Nat} (hb : 0 < b) (hk : 0 < k) : ratv s (a * k) (b * k) = ratv s a b := by
  have h1 := natCast_ne hb
  have h2 := natCast_ne hk
  unfold ratv
  rw [Rat.natCast_mul, Rat.natCast_mul]
  cases s <;> simp <;> grind
theorem ratv_plus {s : Bool} {a c m : Nat} : ratv s (a + c) m = ratv s a m + ratv s c m := by
  unfold ratv
  rw [Rat.natCast_add]
  cases s <;> simp <;> grind
theorem cast_sub {a c : Nat} (h : c ≤ a) : ((a - c : Nat) : Rat) = (a : Rat) - (c : Rat) := by
  have : ((a - c + c : Nat) : Rat) = (a : Rat) := by rw [Nat.sub_add_cancel h]
  rw [Rat.natCast_add] at this
  grind
theorem ratv_minus {s t : Bool} {a c m : Nat} (h : s ≠ t) (hle : c ≤ a) : ratv s (a - c) m = ratv s a m + ratv t c m := by
  unfold ratv
  rw [cast_sub hle]
  cases s <;> cases t <;> simp at h ⊢ <;> grind
end Big
set_option maxHeartbeats 1600000
set_option maxRecDepth 100000
namespace Go.Proofs.YtigidchicloleaaGreatDoor
open Go.RowKit Go.Lib Big
end Go.Proofs.YtigidchicloleaaGreatDoor
namespace Go.Proofs.YtigidchicloleaaGreatDoor
open Go.Lib Big
theorem ratv_self (q : Rat) : ratv (decide (q.num < 0)) q.num.natAbs q.den = q := by
  have h : (if decide (q.num < 0) = true then -((q.num.natAbs : Nat) : Rat) else ((q.num.natAbs : Nat) : Rat)) = (q.num : Rat) := by
    by_cases h : q.num < 0
    · simp only [h, decide_true, if_true]
      have : ((q.num.natAbs : Nat) : Int) = - q.num := by omega
      have h2 : (((q.num.natAbs : Nat) : Int) : Rat) = ((- q.num : Int) : Rat) := by rw [this]
      rw [Rat.intCast_natCast, Rat.intCast_neg] at h2
      rw [h2, Rat.neg_neg]
    · simp only [h, decide_false, Bool.false_eq_true, if_false]
      have : ((q.num.natAbs : Nat) : Int) = q.num := by omega
      have h2 : (((q.num.natAbs : Nat) : Int) : Rat) = ((q.num : Int) : Rat) := by rw [this]
      rw [Rat.intCast_natCast] at h2
      exact h2
  unfold ratv
  rw [h]
  have h2 : q = mkRat q.num q.den := (Rat.mkRat_self q).symm
  rw [Rat.mkRat_eq_div] at h2
  exact h2.symm
end Go.Proofs.YtigidchicloleaaGreatDoor
