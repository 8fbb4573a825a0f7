/- Units as texts and powers: products, powers and conversions; the units of texts. The contracts of the numbers in terms of rational numbers; the closure of onTexts; Add, Sub, Mul, Div. Add, Sub, Mul, Div, Compare on texts. Compare, isPositive, Floor on texts. Power of a rational number. -/
import Derived.Test.YtpnofkefcoaojaaGreatDoorKA
import Derived.Test.YtpnofkefcoaojaaGreatDoorV09
import Derived.Outline
import Derived.Test.YtpnofkefcoaojaaGreatDoorV05
import Derived.Test.YtpnofkefcoaojaaGreatDoorV01
set_option maxHeartbeats 3200000
set_option maxRecDepth 100000
namespace Go.Proofs.YtpnofkefcoaojaaGreatDoor
open Go.Lib Big
def posT (x : List UInt8) : Bool := match num x with
  | some q => decide (0 < q)
  | none => false
/-! Convert -/
end Go.Proofs.YtpnofkefcoaojaaGreatDoor
namespace Go.Proofs.YtpnofkefcoaojaaGreatDoor
open Go.Lib Big
end Go.Proofs.YtpnofkefcoaojaaGreatDoor
namespace Go.Proofs.YtpnofkefcoaojaaGreatDoor
open Go.Lib Big
end Go.Proofs.YtpnofkefcoaojaaGreatDoor
namespace Go.Proofs.YtpnofkefcoaojaaGreatDoor
open Go.RowKit Go.Lib Big
theorem ratAt_flag {w : World} {x : Value} {s : Bool} {a b : Nat} (h : RatAt w x s a b) : s = true → 0 < a := by
  obtain ⟨u, v, -, -, -, h⟩ := h; exact h
def IsPost (q : Rat) (K : Nat) (w : World) (e : Ending) (w' : World) : Prop := ∃ x, e = .returned x ∧ RatIs w' x q K ∧ Below w.heap.size w w'
theorem add_is (x y : Value) (p q : Rat) (K : Nat) (w : World) (hK : 2 * K + 1 ≤ 1073741824) (hx : RatIs w x p K) (hy : RatIs w y q K) : Calls Tryz.prog 89 #[x, y] w (IsPost (p + q) (2 * K + 1) w) := by
  obtain ⟨s, a, b, h1, rfl, h3, h4, h5⟩ := hx
  obtain ⟨t, c, d, k1, rfl, k3, k4, k5⟩ := hy
  refine (add_any x y s t a b c d K w hK h4 h5 k4 k5 h3 k3 h1 k1).mono ?_
  rintro e w' ⟨z, r, n, m, rfl, hz, hb, hm, hv, hn, hm2⟩
  exact ⟨z, rfl, ⟨r, n, m, hz, hv, hm, hn, hm2⟩, hb⟩
theorem mul_lt2 {a b K : Nat} (ha : a < B64 ^ K) (hb : b < B64 ^ K) : a * b < B64 ^ (2 * K) := by
  rw [pow_two]
  exact Nat.mul_lt_mul'' ha hb
theorem mul_is (x y : Value) (p q : Rat) (K : Nat) (w : World) (hK : K ≤ 1073741824) (hx : RatIs w x p K) (hy : RatIs w y q K) : Calls Tryz.prog 91 #[x, y] w (IsPost (p * q) (2 * K) w) := by
  obtain ⟨s, a, b, h1, rfl, h3, h4, h5⟩ := hx
  obtain ⟨t, c, d, k1, rfl, k3, k4, k5⟩ := hy
  refine (mul_any x y s t a b c d K w hK h4 h5 k4 k5 h1 k1).mono ?_
  rintro e w' ⟨z, rfl, hz, hb⟩
  exact ⟨z, rfl, ⟨_, _, _, hz, by rw [ratv_drop, ratv_mul h3 k3], Nat.mul_pos h3 k3, mul_lt2 h4 k4, mul_lt2 h5 k5⟩, hb⟩
theorem ratv_zero_iff {s : Bool} {a b : Nat} (hb : 0 < b) : ratv s a b = 0 ↔ a = 0 := by
  have h1 := natCast_ne hb
  constructor
  · intro h
    unfold ratv at h
    apply Nat.eq_zero_of_not_pos
    intro ha
    have h2 := natCast_ne ha
    cases s
    · simp only [Bool.false_eq_true, if_false] at h; grind
    · simp only [if_true] at h; grind
  · rintro rfl
    unfold ratv
    cases s <;> simp <;> grind
theorem quo_is (x y : Value) (p q : Rat) (K : Nat) (w : World) (hK : K ≤ 1073741824) (hq : q ≠ 0) (hx : RatIs w x p K) (hy : RatIs w y q K) : Calls Tryz.prog 79 #[x, y] w (IsPost (p / q) (2 * K) w) := by
  obtain ⟨s, a, b, h1, rfl, h3, h4, h5⟩ := hx
  obtain ⟨t, c, d, k1, rfl, k3, k4, k5⟩ := hy
  have hc : 0 < c := by
    apply Nat.pos_of_ne_zero; intro h0; exact hq ((ratv_zero_iff k3).2 h0)
  refine (quo_any x y s t a b c d K w hK h4 h5 k4 k5 h1 k1).mono ?_
  rintro e w' ⟨z, rfl, hz, hb⟩
  exact ⟨z, rfl, ⟨_, _, _, hz, by rw [ratv_drop, ratv_quo h3 k3 hc], Nat.mul_pos h3 hc, mul_lt2 h4 k5, mul_lt2 h5 k4⟩, hb⟩
theorem qtext_is (x : Value) (q : Rat) (K : Nat) (w : World) (hK : K ≤ 1000000) (hx : RatIs w x q K) (htab : Tab w) : Calls Tryz.prog 131 #[x] w fun e w' => e = .returned (.string ⟨(txt q).toArray⟩) ∧ Below w.heap.size w w' := by
  obtain ⟨s, a, b, h1, rfl, h3, h4, h5⟩ := hx
  rw [← numText_txt h3 (ratAt_flag h1)]
  exact qtext_any x s a b K w hK h4 h5 h3 h1 htab
theorem readQ_lt {l : List UInt8} {s : Bool} {n d : Nat} (h : readQ l = some (s, n, d)) : n < B64 ^ 20 ∧ d < B64 ^ 20 ∧ 0 < d := by
  unfold readQ at h
  split at h
  · cases h
  · rename_i hl
    split at h
    · rename_i s0 n0 d0 hr
      split at h
      · cases h; exact readL_lt hr (by omega)
      · cases h
    · cases h
def NumPost (o : Option Rat) (w : World) (e : Ending) (w' : World) : Prop :=
  Below w.heap.size w w' ∧ ∃ b p n c q m d, e = .returned (.tuple #[.agg #[.bool b, .slice p n c, .slice q m d], .bool o.isSome]) ∧ ∀ r, o = some r → RatIs w' (.agg #[.bool b, .slice p n c, .slice q m d]) r 20
theorem qread_is (s : ByteArray) (w : World) (htab : Tab w) : Calls Tryz.prog 130 #[.string s] w (NumPost (num s.data.toList) w) := by
  refine (qread_c s w htab).mono fun e w' h => ⟨h.1, ?_⟩
  obtain ⟨-, b, p, n, c, q, m, d, he, hr⟩ := h
  unfold num
  cases hq : readQ s.data.toList with
  | none => rw [hq] at he; exact ⟨b, p, n, c, q, m, d, he, fun r h => by cases h⟩
  | some t =>
    obtain ⟨sg, x, y⟩ := t
    rw [hq] at he hr
    refine ⟨b, p, n, c, q, m, d, he, ?_⟩
    rintro r h
    cases h
    obtain ⟨h1, h2, h3⟩ := readQ_lt hq
    exact ⟨sg, x, y, hr _ _ _ rfl, rfl, h3, h1, h2⟩
end Go.Proofs.YtpnofkefcoaojaaGreatDoor
namespace Go.Proofs.YtpnofkefcoaojaaGreatDoor
open Go.RowKit Go.Lib Big
def TxtPost (l : List UInt8) (w : World) (e : Ending) (w' : World) : Prop := e = .returned (.string ⟨l.toArray⟩) ∧ Below w.heap.size w w'
theorem sign_is (x : Value) (q : Rat) (K : Nat) (w : World) (hx : RatIs w x q K) : Calls Tryz.prog 135 #[x] w fun e w' => e = .returned (.int .i64 (sgnR q)) ∧ Below w.heap.size w w' := by
  obtain ⟨s, a, b, h1, rfl, h3, h4, h5⟩ := hx
  have e : sgn s a = sgnR (ratv s a b) := by
    obtain ⟨g1, g2, g3⟩ := ratv_num h3 (ratAt_flag h1)
    have hz := ratv_zero_iff (s := s) (a := a) h3
    unfold sgn sgnR
    have hn : (ratv s a b < 0) ↔ (ratv s a b).num < 0 := by have := Rat.num_nonneg (q := ratv s a b); grind
    cases s
    · rw [decide_eq_false_iff_not] at g1
      rw [if_neg (by simp), if_neg (fun h => g1 (hn.1 h))]
      by_cases ha : a = 0
      · rw [if_pos ha, if_pos (hz.2 ha)]
      · rw [if_neg ha, if_neg (fun h => ha (hz.1 h))]
    · rw [decide_eq_true_iff] at g1
      rw [if_pos rfl, if_pos (hn.2 g1)]
  rw [← e]
  exact sign_any x s a b w h1
end Go.Proofs.YtpnofkefcoaojaaGreatDoor
namespace Go.Proofs.YtpnofkefcoaojaaGreatDoor
open Go.RowKit Go.Lib Big
/-! isPositive -/
theorem pos_bad (x : ByteArray) (w : World) (hx : Hid (Calls Tryz.prog 130 #[.string x] w (NumPost none w))) : Calls Tryz.prog 86 #[.string x] w fun e w' => e = .returned (.bool false) ∧ Below w.heap.size w w' := by
  go_enter Tryz.func86, Tryz.ntmps86
  go_wp2_with fail
  refine hx.out.mono ?_
  rintro e w2 ⟨hb2, b, p, n, c, q, m, d, rfl, -⟩
  have hbw := hiD (hb2.trans ((bea w2 (.cells #[.bool b, .slice p n c, .slice q m d] 98)).mono hb2.size))
  clear hb2
  go_wp2_with fail
  go_ret
  exact ⟨rfl, hbw.out⟩
theorem pos_ok (x : ByteArray) (r : Rat) (w : World) (hx : Hid (Calls Tryz.prog 130 #[.string x] w (NumPost (some r) w))) : Calls Tryz.prog 86 #[.string x] w fun e w' => e = .returned (.bool (decide ((0 : Int) < sgnR r))) ∧ Below w.heap.size w w' := by
  have hsg : Hid (∀ W z, RatIs W z r 20 → Calls Tryz.prog 135 #[z] W fun e w' => e = .returned (.int .i64 (sgnR r)) ∧ Below W.heap.size W w') := hiD fun W z hz => sign_is z r 20 W hz
  generalize sgnR r = c at hsg ⊢
  go_enter Tryz.func86, Tryz.ntmps86
  go_wp2_with fail
  refine hx.out.mono ?_
  rintro e w2 ⟨hb2, b1, p1, n1, c1, q1, m1, d1, rfl, hr1⟩
  have hbw := hiD (hb2.trans ((bea w2 (.cells #[.bool b1, .slice p1 n1 c1, .slice q1 m1 d1] 98)).mono hb2.size))
  have hR1 := (hr1 _ rfl).below (bea w2 (.cells #[.bool b1, .slice p1 n1 c1, .slice q1 m1 d1] 98))
  have ht := hiD (hsg.out _ _ hR1)
  clear hb2 hr1 hR1
  go_wp2_with fail
  refine ht.out.mono ?_
  rintro e w6 ⟨rfl, hb6⟩
  have hbw6 := hiD (hbw.out.trans (hb6.mono hbw.out.size))
  clear hb6
  go_wp2_with fail
  go_ret
  exact ⟨rfl, hbw6.out⟩
theorem isPositive_q (x : ByteArray) (w : World) (htab : Tab w) : Calls Tryz.prog 86 #[.string x] w fun e w' => e = .returned (.bool (posT x.data.toList)) ∧ Below w.heap.size w w' := by
  have hx := qread_is x w htab
  unfold posT
  cases hnx : num x.data.toList with
  | none => rw [hnx] at hx; exact pos_bad x w (hiD hx)
  | some r =>
    rw [hnx] at hx
    have e : decide ((0 : Int) < sgnR r) = decide (0 < r) := by
      rcases sgnR_cases r with ⟨h1, h2⟩ | ⟨h1, h2⟩ | ⟨h1, h2⟩
      · rw [h2, decide_eq_false (by omega), decide_eq_false (by grind)]
      · rw [h2, decide_eq_false (by omega), decide_eq_false (by grind)]
      · rw [h2, decide_eq_true (by omega), decide_eq_true h1]
    simp only
    rw [← e]
    exact pos_ok x r w (hiD hx)
end Go.Proofs.YtpnofkefcoaojaaGreatDoor
namespace Go.Proofs.YtpnofkefcoaojaaGreatDoor
open Go.RowKit Go.Lib Big
end Go.Proofs.YtpnofkefcoaojaaGreatDoor
set_option maxHeartbeats 3200000
set_option maxRecDepth 100000
namespace Go.Proofs.YtpnofkefcoaojaaGreatDoor
open Go.RowKit Go.Lib Big
theorem one_is (w : World) : Calls Tryz.prog 87 #[.int .i64 1] w (IsPost 1 1 w) := by
  refine (int_any 1 w (by omega)).mono ?_
  rintro e w' ⟨z, rfl, hz, hb⟩
  have h1 : 1 < B64 ^ 1 := by rw [Nat.pow_one, B64_eq]; omega
  refine ⟨z, rfl, ⟨_, _, _, hz, ?_, by omega, h1, h1⟩, hb⟩
  rw [ratv_drop]; unfold ratv; simp; grind
end Go.Proofs.YtpnofkefcoaojaaGreatDoor
namespace Go.Proofs.YtpnofkefcoaojaaGreatDoor
open Go.RowKit Go.Lib Big
end Go.Proofs.YtpnofkefcoaojaaGreatDoor
namespace Go.Proofs.YtpnofkefcoaojaaGreatDoor
open Go.RowKit Go.Lib Big
end Go.Proofs.YtpnofkefcoaojaaGreatDoor
namespace Go.Proofs.YtpnofkefcoaojaaGreatDoor
open Go.RowKit Go.Lib Big
end Go.Proofs.YtpnofkefcoaojaaGreatDoor
namespace Go.Proofs.YtpnofkefcoaojaaGreatDoor
open Go.RowKit Go.Lib Big
section
variable {B : Nat} {w0 W W' : World}
end
end Go.Proofs.YtpnofkefcoaojaaGreatDoor
set_option maxHeartbeats 3200000
set_option maxRecDepth 100000
namespace Go.Proofs.YtpnofkefcoaojaaGreatDoor
open Go.RowKit Big
open Go.Lib
def floQ (q : Rat) : Rat := ratv (decide (q.num < 0)) (floorN (decide (q.num < 0)) q.num.natAbs q.den) 1
end Go.Proofs.YtpnofkefcoaojaaGreatDoor
namespace Go.Proofs.YtpnofkefcoaojaaGreatDoor
open Go.RowKit Go.Lib Big
end Go.Proofs.YtpnofkefcoaojaaGreatDoor
namespace Go.Proofs.YtpnofkefcoaojaaGreatDoor
open Go.RowKit Big
open Go.Lib
def halfQ : Rat := ((1 : Int) : Rat) / ((2 : Int) : Rat)
def rndQ (a b : Rat) : Rat := floQ (a / b + halfQ) * b
end Go.Proofs.YtpnofkefcoaojaaGreatDoor
set_option maxHeartbeats 3200000
set_option maxRecDepth 100000
namespace Go.Proofs.YtpnofkefcoaojaaGreatDoor
open Go.RowKit Big
open Go.Lib
theorem sgn_same (q : Rat) : sgnQ q = sgnR q := by
  unfold sgnQ sgnR
  have h1 : q.num < 0 ↔ q < 0 := by rw [← Rat.not_le, ← Rat.num_nonneg]; omega
  have h2 : q.num = 0 ↔ q = 0 := Rat.num_eq_zero
  simp only [h1, h2]
end Go.Proofs.YtpnofkefcoaojaaGreatDoor
