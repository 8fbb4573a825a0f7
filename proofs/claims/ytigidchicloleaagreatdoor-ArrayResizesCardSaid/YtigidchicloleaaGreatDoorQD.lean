/- Fractions with a sign, and the rational numbers that they stand for. -/
import Derived.Test.YtigidchicloleaaGreatDoorRc
import Derived.Deep.LoopGhost
import Derived.Deep.RegionHeld3
import Derived.Deep.RegionWith
set_option maxHeartbeats 3200000
set_option maxRecDepth 100000
namespace Go.Proofs.YtigidchicloleaaGreatDoor
open Go.RowKit Big
variable {B : Nat} {s : Bool} {u1 v1 : Value} {t : Bool} {u2 v2 : Value} {w0 W W' : World}
end Go.Proofs.YtigidchicloleaaGreatDoor
namespace Big
theorem natCast_ne {b : Nat} (h : 0 < b) : (b : Rat) ≠ 0 := by
  intro e
  have : ((b : Int) : Rat) = ((0 : Int) : Rat) := by simpa using e
  have := Rat.intCast_inj.1 this
  omega
theorem ratv_drop (s : Bool) (a b : Nat) : ratv (s && !(a == 0)) a b = ratv s a b := by
  cases s
  · rfl
  · by_cases h : a = 0
    · subst h; simp [ratv]
    · have h1 : (a == 0) = false := by simpa using h
      rw [h1]; rfl
theorem ratv_scale {s : Bool} {a b k : Nat} (hb : 0 < b) (hk : 0 < k) : ratv s (a * k) (b * k) = ratv s a b := by
  have h1 := natCast_ne hb
  have h2 := natCast_ne hk
  unfold ratv
  rw [Rat.natCast_mul, Rat.natCast_mul]
  cases s <;> simp <;> grind
theorem ratv_plus {s : Bool} {a c m : Nat} : ratv s (a + c) m = ratv s a m + ratv s c m := by
  unfold ratv
  rw [Rat.natCast_add]
  cases s <;> simp <;> grind
theorem cast_sub {a c : Nat} (h : c ≤ a) : ((a - c : Nat) : Rat) = (a : Rat) - (c : Rat) := by
  have : ((a - c + c : Nat) : Rat) = (a : Rat) := by rw [Nat.sub_add_cancel h]
  rw [Rat.natCast_add] at this
  grind
theorem ratv_minus {s t : Bool} {a c m : Nat} (h : s ≠ t) (hle : c ≤ a) : ratv s (a - c) m = ratv s a m + ratv t c m := by
  unfold ratv
  rw [cast_sub hle]
  cases s <;> cases t <;> simp at h ⊢ <;> grind
end Big
set_option maxHeartbeats 1600000
set_option maxRecDepth 100000
namespace Go.Proofs.YtigidchicloleaaGreatDoor
open Go.RowKit Go.Lib Big
end Go.Proofs.YtigidchicloleaaGreatDoor
namespace Go.Proofs.YtigidchicloleaaGreatDoor
open Go.Lib Big
theorem numText_txt' {s : Bool} {a b : Nat} (hb : 0 < b) : numText (s && !(a == 0)) a b = txt (ratv (s && !(a == 0)) a b) :=
  numText_txt hb (by intro h; simp at h; omega)
theorem ratv_self (q : Rat) : ratv (decide (q.num < 0)) q.num.natAbs q.den = q := by
  have h : (if decide (q.num < 0) = true then -((q.num.natAbs : Nat) : Rat) else ((q.num.natAbs : Nat) : Rat)) = (q.num : Rat) := by
    by_cases h : q.num < 0
    · simp only [h, decide_true, if_true]
      have : ((q.num.natAbs : Nat) : Int) = - q.num := by omega
      have h2 : (((q.num.natAbs : Nat) : Int) : Rat) = ((- q.num : Int) : Rat) := by rw [this]
      rw [Rat.intCast_natCast, Rat.intCast_neg] at h2
      rw [h2, Rat.neg_neg]
    · simp only [h, decide_false, Bool.false_eq_true, if_false]
      have : ((q.num.natAbs : Nat) : Int) = q.num := by omega
      have h2 : (((q.num.natAbs : Nat) : Int) : Rat) = ((q.num : Int) : Rat) := by rw [this]
      rw [Rat.intCast_natCast] at h2
      exact h2
  unfold ratv
  rw [h]
  have h2 : q = mkRat q.num q.den := (Rat.mkRat_self q).symm
  rw [Rat.mkRat_eq_div] at h2
  exact h2.symm
theorem dec_big {u : Nat} (h : ¬ u < 10) : decDigits u = decDigits (u / 10) ++ [UInt8.ofNat (48 + u % 10)] := by rw [decDigits, dif_neg h]
theorem dig_isDig {k : Nat} (h : k < 10) : isDig (UInt8.ofNat (48 + k)) = true ∧ (UInt8.ofNat (48 + k)).toNat - 48 = k := by
  have : (UInt8.ofNat (48 + k)).toNat = 48 + k := by
    rw [UInt8.toNat_ofNat']; omega
  unfold isDig
  rw [this]
  simp; omega
theorem dec_all (u : Nat) : (decDigits u).all isDig = true ∧ dval (decDigits u) = u := by
  induction u using Nat.strongRecOn with
  | _ u ih =>
    by_cases h : u < 10
    · rw [decDigits_one h]
      obtain ⟨h1, h2⟩ := dig_isDig h
      refine ⟨by rw [List.all_cons, h1]; rfl, ?_⟩
      show 0 * 10 + ((UInt8.ofNat (48 + u)).toNat - 48) = u
      rw [h2]; omega
    · rw [dec_big h]
      obtain ⟨h1, h2⟩ := dig_isDig (k := u % 10) (by omega)
      obtain ⟨h3, h4⟩ := ih (u / 10) (by omega)
      refine ⟨by rw [List.all_append, h3, List.all_cons, h1]; rfl, ?_⟩
      rw [dval_append, h4]
      show u / 10 * 10 ^ 1 + (0 * 10 + ((UInt8.ofNat (48 + u % 10)).toNat - 48)) = u
      rw [h2]; omega
theorem dec_ne (u : Nat) : decDigits u ≠ [] := by
  intro h
  have h1 := decDigits_length u
  rw [h] at h1
  have := nDigits_pos u
  simp at h1; omega
theorem isDig_ne {l : List UInt8} {c : UInt8} (h : l.all isDig = true) (hc : isDig c = false) : c ∉ l := by
  intro hm
  rw [List.all_eq_true] at h
  rw [h c hm] at hc; cases hc
theorem index_one_none {l : List UInt8} {c : UInt8} (h : c ∉ l) : Lib.index l [c] = -1 := by
  apply Lib.index_none
  intro j _
  unfold Lib.occAt
  cases hd : l.drop j with
  | nil => rfl
  | cons b t =>
    have hb : b ∈ l := List.mem_of_mem_drop (by rw [hd]; simp)
    have : (c == b) = false := by rw [beq_eq_false_iff_ne]; rintro rfl; exact h hb
    simp [List.isPrefixOf, this]
theorem cut_none {l : List UInt8} {c : UInt8} (h : c ∉ l) : Lib.cut l [c] = (l, [], false) := by
  unfold Lib.cut
  rw [index_one_none h, if_neg (by decide)]
theorem cut_at {a b : List UInt8} {c : UInt8} (h : c ∉ a) : Lib.cut (a ++ c :: b) [c] = (a, b, true) := by
  have hi : Lib.index (a ++ c :: b) [c] = a.length := by
    apply Lib.index_first
    · simp
    · unfold Lib.occAt; rw [List.drop_left]; simp [List.isPrefixOf]
    · intro j hj
      unfold Lib.occAt
      rw [List.drop_append_of_le_length (by omega)]
      cases hd : a.drop j with
      | nil => have := congrArg List.length hd; simp at this; omega
      | cons x t =>
        have hb : x ∈ a := List.mem_of_mem_drop (by rw [hd]; simp)
        have : (c == x) = false := by rw [beq_eq_false_iff_ne]; rintro rfl; exact h hb
        simp [List.isPrefixOf, this]
  unfold Lib.cut
  rw [hi, if_pos (by omega)]
  simp
theorem wrote_ne (s : Bool) (n d : Nat) : wrote s n d ≠ [] := by
  unfold wrote
  simp [dec_ne]
end Go.Proofs.YtigidchicloleaaGreatDoor
