/- The document's NatSub, small. -/
import Derived.Test.YtigidchicloleaaGreatDoorRa
import Derived.Deep.LoopGhost
import Derived.Deep.RegionHeld3
import Derived.Deep.RegionWith
set_option maxHeartbeats 3200000
set_option maxRecDepth 100000
namespace Go.Proofs.YtigidchicloleaaGreatDoor
open Go.RowKit Big
structure SubInv9 (x y : List Nat) (k d : Nat) (L : List Nat) : Prop where
  len : L.length = k
  dig : Dig B9 L
  owe : d ≤ 1
  eq : val B9 L + val B9 (y.take k) = val B9 (x.take k) + B9 ^ k * d
theorem SubInv9.start (x y : List Nat) : SubInv9 x y 0 0 [] := ⟨rfl, Dig.nil _, by omega, by simp [val]⟩
theorem SubInv9.step {x y : List Nat} {k d : Nat} {L : List Nat} (h : SubInv9 x y k d L) (_dx : Dig B9 x) (_dy : Dig B9 y) (a b s d' : Nat) (ha : x.getD k 0 = a) (hb : y.getD k 0 = b) (hs : s + b + d = a + 1000000000 * d') (hd : d' ≤ 1) (hs9 : s < 1000000000) :
    SubInv9 x y (k + 1) d' (L ++ [s]) := by
  refine ⟨by rw [List.length_append, h.len]; rfl, h.dig.append (Dig.one (by rw [B9_eq]; exact hs9)), hd, ?_⟩
  rw [val_snoc, h.len, val_take_succD, val_take_succD, ha, hb, Nat.pow_succ]
  exact less_step h.eq (by rw [B9_eq]; exact hs)
theorem SubInv9.done {x y : List Nat} {k d : Nat} {L : List Nat} (h : SubInv9 x y k d L) (h1 : x.length = k) (h2 : y.length ≤ k) (hle : val B9 y ≤ val B9 x) : val B9 L = val B9 x - val B9 y := by
  have h3 := h.eq
  rw [List.take_of_length_le (by omega), List.take_of_length_le (by omega)] at h3
  have h4 := val_lt L h.dig
  rw [h.len] at h4
  have h5 : d = 0 := by
    apply Nat.eq_zero_of_not_pos; intro h6
    have : B9 ^ k * 1 ≤ B9 ^ k * d := Nat.mul_le_mul_left _ h6
    omega
  subst h5
  omega
structure MulIn9 (L0 : List Nat) (i x : Nat) (y : List Nat) (k c : Nat) (L : List Nat) : Prop where
  put : Put L0 i k L
  dig : Dig B9 L
  car : c < B9
  eq : val B9 (seg L i k) + B9 ^ k * c = val B9 (seg L0 i k) + val B9 (y.take k) * x
theorem MulIn9.start {L0 : List Nat} (h : Dig B9 L0) (i x : Nat) (y : List Nat) : MulIn9 L0 i x y 0 0 L0 :=
  ⟨Put.refl _ _, h, B9_pos, by simp [seg_zero, val]⟩
theorem MulIn9.step {L0 L : List Nat} {i x k c : Nat} {y : List Nat} (h : MulIn9 L0 i x y k c L) (hk : i + k < L0.length) (a b : Nat) (ha : L.getD (i + k) 0 = a) (hb : y.getD k 0 = b) (dx : x < B9) (db : b < B9) :
    MulIn9 L0 i x y (k + 1) ((a + x * b + c) / B9) (L.set (i + k) ((a + x * b + c) % B9)) := by
  have hlen := h.put.length
  have ha9 : a < B9 := by rw [← ha]; exact h.dig.getD B9_pos _
  have ha0 : L0.getD (i + k) 0 = a := by rw [← h.put.getD (i + k) (Nat.le_refl _)]; exact ha
  have hm : (a + x * b + c) % B9 + B9 * ((a + x * b + c) / B9) = a + b * x + c := by
    rw [Nat.mod_add_div, Nat.mul_comm x b]
  refine ⟨h.put.set _, h.dig.set _ _ (Nat.mod_lt _ B9_pos), ?_, ?_⟩
  · rw [Nat.div_lt_iff_lt_mul B9_pos]
    have h1 : x * b ≤ (B9 - 1) * (B9 - 1) := Nat.mul_le_mul (by omega) (by omega)
    have h2 : (B9 - 1) * (B9 - 1) + 2 * (B9 - 1) < B9 * B9 := by rw [B9_eq]; decide
    have h3 := h.car
    omega
  · rw [h.put.seg_set (by omega), val_snoc, seg_length _ _ _ (by omega), seg_succ L0 i k hk, val_snoc, seg_length _ _ _ (by omega), ha0, val_take_succD, hb, Nat.pow_succ]
    exact addmul_step h.eq hm
structure MulInv9 (x y : List Nat) (i : Nat) (L : List Nat) : Prop where
  len : L.length = x.length + y.length
  dig : Dig B9 L
  eq : val B9 (seg L 0 (y.length + i)) = val B9 y * val B9 (x.take i)
  zero : ∀ j, y.length + i ≤ j → j < x.length + y.length → L.getD j 0 = 0
theorem MulInv9.start (x y : List Nat) : MulInv9 x y 0 (List.replicate (x.length + y.length) 0) :=
  ⟨by simp, Dig.zeros B9_pos _, by simp [seg, val, val_zeros], fun j _ h => by simp [List.getD_eq_getElem?_getD, h]⟩
theorem seg_split (M : List Nat) (a b : Nat) : seg M 0 (a + b) = seg M 0 a ++ seg M a b := by
  simp only [seg, List.drop_zero]; rw [List.take_add]
theorem MulInv9.step {x y : List Nat} {i c : Nat} {L L' : List Nat} (h : MulInv9 x y i L) (hi : i < x.length) (a : Nat) (ha : x.getD i 0 = a) (hin : MulIn9 L i a y y.length c L') :
    MulInv9 x y (i + 1) (L'.set (i + y.length) c) := by
  have hput2 := hin.put.set c
  have hlen : (L'.set (i + y.length) c).length = L.length := hput2.length
  have hL := h.len
  have h1 : seg (L'.set (i + y.length) c) 0 (y.length + (i + 1)) = seg L 0 i ++ (seg L' i y.length ++ [c]) := by
    rw [show y.length + (i + 1) = i + (y.length + 1) from by omega, seg_split, hput2.before_seg 0 i (by omega), hin.put.seg_set (by omega)]
  have h2 : seg L 0 (y.length + i) = seg L 0 i ++ seg L i y.length := by rw [show y.length + i = i + y.length from by omega, seg_split]
  have hl0 : (seg L 0 i).length = i := seg_length _ _ _ (by omega)
  have hl1 : (seg L' i y.length).length = y.length := seg_length _ _ _ (by rw [hin.put.length]; omega)
  refine ⟨by rw [hlen]; exact hL, hin.dig.set _ _ hin.car, ?_, ?_⟩
  · have h3 := h.eq
    have h4 := hin.eq
    rw [List.take_of_length_le (Nat.le_refl _)] at h4
    rw [h1, val_append, val_snoc, hl0, hl1, h4, val_take_succD, ha]
    rw [h2, val_append, hl0] at h3
    rw [Nat.mul_add, Nat.mul_add, ← h3]
    grind
  · intro j h3 h4
    rw [hput2.getD j (by omega)]; exact h.zero j (by omega) h4
theorem MulInv9.done {x y : List Nat} {L : List Nat} (h : MulInv9 x y x.length L) : val B9 L = val B9 x * val B9 y := by
  have h1 := h.eq
  rw [seg_all L _ (by rw [h.len]; omega), List.take_of_length_le (Nat.le_refl _)] at h1
  rw [h1, Nat.mul_comm]
def Apart (g : Nat) (v : Value) : Prop := ∀ b o n c, v = .slice (some ⟨b, o, none⟩) n c → b ≠ g
theorem Nat9.set {w : World} {v : Value} {x g : Nat} (h : Nat9 w v x) (ha : Apart g v) (k : Nat) (u : Value) : Nat9 (w.setCell ⟨g, k, none⟩ u) v x := by
  obtain ⟨p, n, c, l, rfl, h2, h3, h4⟩ := h
  exact ⟨p, n, c, l, rfl, h2, ((Only.refl g w).setCell k u).rd h3 (.inr fun b o hp => ha b o n c (by rw [hp])), h4⟩
theorem Nat9.apart {w : World} {v : Value} {x g : Nat} (h : Nat9 w v x) (hg : w.heap.size ≤ g) (hx : x ≠ 0) : Apart g v := by
  obtain ⟨p, n, c, l, rfl, h2, h3, h4, h5⟩ := h
  intro b o n' c' e
  cases e
  have hn : 0 < n := by
    apply Nat.pos_of_ne_zero; rintro rfl
    have := h3.len
    rw [List.eq_nil_of_length_eq_zero this] at h5
    exact hx h5.symm
  obtain ⟨b', o', e', hb, _⟩ := h3.opened hn
  cases e'
  omega
theorem Fresh.apart {g B : Nat} {v : Value} (h : Fresh B v) (hg : g < B) : Apart g v := fun b o n c e => by have := h b o n c e; omega
theorem Nat9.pos {w : World} {v : Value} {x : Nat} (h : Nat9 w v x) (hx : x ≠ 0) : ∃ b o k c l, v = .slice (some ⟨b, o, none⟩) (k + 1) c ∧ k + 1 ≤ c ∧ Rd w (some ⟨b, o, none⟩) (k + 1) l ∧ Canon B9 l ∧ val B9 l = x ∧ b < w.heap.size := by
  obtain ⟨p, n, c, l, rfl, h2, h3, h4, h5⟩ := h
  have hn : 0 < n := by
    apply Nat.pos_of_ne_zero; rintro rfl
    have := h3.len
    rw [List.eq_nil_of_length_eq_zero this] at h5
    exact hx h5.symm
  obtain ⟨k, rfl⟩ : ∃ k, n = k + 1 := ⟨n - 1, by omega⟩
  obtain ⟨b', o', e', hb, _⟩ := h3.opened hn
  cases e'
  exact ⟨b', o', k, c, l, rfl, h2.1, h3, h4, h5, hb⟩
end Go.Proofs.YtigidchicloleaaGreatDoor
set_option maxHeartbeats 12800000
set_option maxRecDepth 100000
namespace Go.Proofs.YtigidchicloleaaGreatDoor
open Go.RowKit Big
theorem pow9_mono {a K L : Nat} (h : a < B9 ^ K) (hKL : K ≤ L) : a < B9 ^ L :=
  Nat.lt_of_lt_of_le h (Nat.pow_le_pow_right B9_pos hKL)
theorem pow9_mul {a b K L : Nat} (ha : a < B9 ^ K) (hb : b < B9 ^ L) : a * b < B9 ^ (K + L) := by
  rw [Nat.pow_add]
  exact Nat.mul_lt_mul'' ha hb
end Go.Proofs.YtigidchicloleaaGreatDoor
set_option maxHeartbeats 3200000
set_option maxRecDepth 100000
namespace Go.Proofs.YtigidchicloleaaGreatDoor
open Go.RowKit Big
variable {B : Nat} {s : Bool} {u1 v1 : Value} {t : Bool} {u2 v2 : Value} {w0 W W' : World}
end Go.Proofs.YtigidchicloleaaGreatDoor
namespace Big
theorem natCast_ne {b : Nat} (h : 0 < b) : (b : Rat) ≠ 0 := by
  intro e
  have : ((b : Int) : Rat) = ((0 : Int) : Rat) := by simpa using e
  have := Rat.intCast_inj.1 this
  omega
theorem ratv_drop (s : Bool) (a b : Nat) : ratv (s && !(a == 0)) a b = ratv s a b := by
  cases s
  · rfl
  · by_cases h : a = 0
    · subst h; simp [ratv]
    · have h1 : (a == 0) = false := by simpa using h
      rw [h1]; rfl
theorem ratv_scale {s : Bool} {a b k : Nat} (hb : 0 < b) (hk : 0 < k) : ratv s (a * k) (b * k) = ratv s a b := by
  have h1 := natCast_ne hb
  have h2 := natCast_ne hk
  unfold ratv
  rw [Rat.natCast_mul, Rat.natCast_mul]
  cases s <;> simp <;> grind
theorem ratv_plus {s : Bool} {a c m : Nat} : ratv s (a + c) m = ratv s a m + ratv s c m := by
  unfold ratv
  rw [Rat.natCast_add]
  cases s <;> simp <;> grind
theorem cast_sub {a c : Nat} (h : c ≤ a) : ((a - c : Nat) : Rat) = (a : Rat) - (c : Rat) := by
  have : ((a - c + c : Nat) : Rat) = (a : Rat) := by rw [Nat.sub_add_cancel h]
  rw [Rat.natCast_add] at this
  grind
theorem ratv_minus {s t : Bool} {a c m : Nat} (h : s ≠ t) (hle : c ≤ a) : ratv s (a - c) m = ratv s a m + ratv t c m := by
  unfold ratv
  rw [cast_sub hle]
  cases s <;> cases t <;> simp at h ⊢ <;> grind
end Big
set_option maxHeartbeats 1600000
set_option maxRecDepth 100000
namespace Go.Proofs.YtigidchicloleaaGreatDoor
open Go.RowKit Go.Lib Big
end Go.Proofs.YtigidchicloleaaGreatDoor
namespace Go.Proofs.YtigidchicloleaaGreatDoor
open Go.Lib Big
theorem ratv_self (q : Rat) : ratv (decide (q.num < 0)) q.num.natAbs q.den = q := by
  have h : (if decide (q.num < 0) = true then -((q.num.natAbs : Nat) : Rat) else ((q.num.natAbs : Nat) : Rat)) = (q.num : Rat) := by
    by_cases h : q.num < 0
    · simp only [h, decide_true, if_true]
      have : ((q.num.natAbs : Nat) : Int) = - q.num := by omega
      have h2 : (((q.num.natAbs : Nat) : Int) : Rat) = ((- q.num : Int) : Rat) := by rw [this]
      rw [Rat.intCast_natCast, Rat.intCast_neg] at h2
      rw [h2, Rat.neg_neg]
    · simp only [h, decide_false, Bool.false_eq_true, if_false]
      have : ((q.num.natAbs : Nat) : Int) = q.num := by omega
      have h2 : (((q.num.natAbs : Nat) : Int) : Rat) = ((q.num : Int) : Rat) := by rw [this]
      rw [Rat.intCast_natCast] at h2
      exact h2
  unfold ratv
  rw [h]
  have h2 : q = mkRat q.num q.den := (Rat.mkRat_self q).symm
  rw [Rat.mkRat_eq_div] at h2
  exact h2.symm
end Go.Proofs.YtigidchicloleaaGreatDoor
