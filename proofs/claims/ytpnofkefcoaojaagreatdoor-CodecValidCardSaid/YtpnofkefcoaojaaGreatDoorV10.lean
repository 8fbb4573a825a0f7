/- Numbers as rational numbers, and their texts. The four operations and Compare on texts: the laws of a field and of an order. -/
import Derived.Test.YtpnofkefcoaojaaGreatDoorV01
import Derived.Outline
import Derived.Test.YtpnofkefcoaojaaGreatDoorV06
import Derived.Lib.CutLaws
set_option maxHeartbeats 1600000
set_option maxRecDepth 100000
namespace Go.Proofs.YtpnofkefcoaojaaGreatDoor
open Go.RowKit Go.Lib Big
end Go.Proofs.YtpnofkefcoaojaaGreatDoor
namespace Go.Proofs.YtpnofkefcoaojaaGreatDoor
open Go.RowKit Go.Lib Big
end Go.Proofs.YtpnofkefcoaojaaGreatDoor
namespace Go.Proofs.YtpnofkefcoaojaaGreatDoor
open Go.RowKit Go.Lib Big
end Go.Proofs.YtpnofkefcoaojaaGreatDoor
namespace Go.Proofs.YtpnofkefcoaojaaGreatDoor
open Go.RowKit Go.Lib Big
end Go.Proofs.YtpnofkefcoaojaaGreatDoor
namespace Go.Proofs.YtpnofkefcoaojaaGreatDoor
open Go.RowKit Go.Lib Big
end Go.Proofs.YtpnofkefcoaojaaGreatDoor
namespace Go.Proofs.YtpnofkefcoaojaaGreatDoor
open Go.RowKit Go.Lib Big
end Go.Proofs.YtpnofkefcoaojaaGreatDoor
namespace Go.Proofs.YtpnofkefcoaojaaGreatDoor
open Go.RowKit Go.Lib Big
def ReadC (o : Option (Bool × Nat × Nat)) (w : World) (e : Ending) (w' : World) : Prop :=
  Below w.heap.size w w' ∧ ∃ b p n c q m d, e = .returned (.tuple #[.agg #[.bool b, .slice p n c, .slice q m d], .bool o.isSome]) ∧ ∀ s x y, o = some (s, x, y) → RatAt w' (.agg #[.bool b, .slice p n c, .slice q m d]) s x y
theorem qread_c (s : ByteArray) (w : World) (htab : Tab w) : Calls Tryz.prog 130 #[.string s] w (ReadC (readQ s.data.toList) w) := by
  refine (qread_any s w htab).mono fun e w' h => ⟨h.1, ?_⟩
  have h2 := h.2
  cases hq : readQ s.data.toList with
  | none => rw [hq] at h2; exact ⟨_, _, _, _, _, _, _, h2, fun _ _ _ h => by cases h⟩
  | some t =>
    rw [hq] at h2
    obtain ⟨x, rfl, u, v, rfl, hu, hv, hs⟩ := h2
    obtain ⟨p2, n2, k2, rfl⟩ := hu.slice
    obtain ⟨p3, n3, k3, rfl⟩ := hv.slice
    refine ⟨_, _, _, _, _, _, _, rfl, ?_⟩
    rintro _ _ _ h
    cases h
    exact ⟨_, _, rfl, hu, hv, hs⟩
theorem closure_bad1 (x y : ByteArray) (g : Addr) (w : World) (hx : Hid (Calls Tryz.prog 130 #[.string x] w (ReadC none w))) : Calls Tryz.prog 129 #[.string x, .string y, .pointer (some g)] w fun e w' => e = .returned (.string ⟨#[]⟩) ∧ Below w.heap.size w w' := by
  go_enter Tryz.func129, Tryz.ntmps129
  go_wp2_with fail
  refine hx.out.mono ?_
  rintro e w2 ⟨hb2, b, p, n, c, q, m, d, rfl, -⟩
  have hbw := hiD (hb2.trans ((bea w2 (.cells #[.bool b, .slice p n c, .slice q m d] 98)).mono hb2.size))
  clear hb2
  go_wp2_with fail
  go_ret
  exact ⟨rfl, hbw.out⟩
end Go.Proofs.YtpnofkefcoaojaaGreatDoor
namespace Go.Proofs.YtpnofkefcoaojaaGreatDoor
open Go.RowKit Go.Lib Big
end Go.Proofs.YtpnofkefcoaojaaGreatDoor
namespace Go.Proofs.YtpnofkefcoaojaaGreatDoor
open Go.Lib Big
/-! Digits -/
end Go.Proofs.YtpnofkefcoaojaaGreatDoor
namespace Go.Proofs.YtpnofkefcoaojaaGreatDoor
open Go.Lib Big
/-! Compare -/
def sgnR (q : Rat) : Int := if q < 0 then -1 else if q = 0 then 0 else 1
end Go.Proofs.YtpnofkefcoaojaaGreatDoor
namespace Go.Proofs.YtpnofkefcoaojaaGreatDoor
open Go.Lib Big
end Go.Proofs.YtpnofkefcoaojaaGreatDoor
set_option maxHeartbeats 3200000
set_option maxRecDepth 100000
namespace Go.Proofs.YtpnofkefcoaojaaGreatDoor
open Go.Lib Big
/-! Convert -/
end Go.Proofs.YtpnofkefcoaojaaGreatDoor
namespace Go.Proofs.YtpnofkefcoaojaaGreatDoor
open Go.Lib Big
end Go.Proofs.YtpnofkefcoaojaaGreatDoor
namespace Go.Proofs.YtpnofkefcoaojaaGreatDoor
open Go.Lib Big
end Go.Proofs.YtpnofkefcoaojaaGreatDoor
namespace Go.Proofs.YtpnofkefcoaojaaGreatDoor
open Go.RowKit Go.Lib Big
theorem ratAt_flag {w : World} {x : Value} {s : Bool} {a b : Nat} (h : RatAt w x s a b) : s = true → 0 < a := by
  obtain ⟨u, v, -, -, -, h⟩ := h; exact h
def IsPost (q : Rat) (K : Nat) (w : World) (e : Ending) (w' : World) : Prop := ∃ x, e = .returned x ∧ RatIs w' x q K ∧ Below w.heap.size w w'
theorem mul_lt2 {a b K : Nat} (ha : a < B64 ^ K) (hb : b < B64 ^ K) : a * b < B64 ^ (2 * K) := by
  rw [pow_two]
  exact Nat.mul_lt_mul'' ha hb
theorem ratv_zero_iff {s : Bool} {a b : Nat} (hb : 0 < b) : ratv s a b = 0 ↔ a = 0 := by
  have h1 := natCast_ne hb
  constructor
  · intro h
    unfold ratv at h
    apply Nat.eq_zero_of_not_pos
    intro ha
    have h2 := natCast_ne ha
    cases s
    · simp only [Bool.false_eq_true, if_false] at h; grind
    · simp only [if_true] at h; grind
  · rintro rfl
    unfold ratv
    cases s <;> simp <;> grind
theorem quo_is (x y : Value) (p q : Rat) (K : Nat) (w : World) (hK : K ≤ 1073741824) (hq : q ≠ 0) (hx : RatIs w x p K) (hy : RatIs w y q K) : Calls Tryz.prog 79 #[x, y] w (IsPost (p / q) (2 * K) w) := by
  obtain ⟨s, a, b, h1, rfl, h3, h4, h5⟩ := hx
  obtain ⟨t, c, d, k1, rfl, k3, k4, k5⟩ := hy
  have hc : 0 < c := by
    apply Nat.pos_of_ne_zero; intro h0; exact hq ((ratv_zero_iff k3).2 h0)
  refine (quo_any x y s t a b c d K w hK h4 h5 k4 k5 h1 k1).mono ?_
  rintro e w' ⟨z, rfl, hz, hb⟩
  exact ⟨z, rfl, ⟨_, _, _, hz, by rw [ratv_drop, ratv_quo h3 k3 hc], Nat.mul_pos h3 hc, mul_lt2 h4 k5, mul_lt2 h5 k4⟩, hb⟩
theorem qtext_is (x : Value) (q : Rat) (K : Nat) (w : World) (hK : K ≤ 1000000) (hx : RatIs w x q K) (htab : Tab w) : Calls Tryz.prog 131 #[x] w fun e w' => e = .returned (.string ⟨(txt q).toArray⟩) ∧ Below w.heap.size w w' := by
  obtain ⟨s, a, b, h1, rfl, h3, h4, h5⟩ := hx
  rw [← numText_txt h3 (ratAt_flag h1)]
  exact qtext_any x s a b K w hK h4 h5 h3 h1 htab
theorem readQ_lt {l : List UInt8} {s : Bool} {n d : Nat} (h : readQ l = some (s, n, d)) : n < B64 ^ 20 ∧ d < B64 ^ 20 ∧ 0 < d := by
  unfold readQ at h
  split at h
  · cases h
  · rename_i hl
    split at h
    · rename_i s0 n0 d0 hr
      split at h
      · cases h; exact readL_lt hr (by omega)
      · cases h
    · cases h
def NumPost (o : Option Rat) (w : World) (e : Ending) (w' : World) : Prop :=
  Below w.heap.size w w' ∧ ∃ b p n c q m d, e = .returned (.tuple #[.agg #[.bool b, .slice p n c, .slice q m d], .bool o.isSome]) ∧ ∀ r, o = some r → RatIs w' (.agg #[.bool b, .slice p n c, .slice q m d]) r 20
theorem qread_is (s : ByteArray) (w : World) (htab : Tab w) : Calls Tryz.prog 130 #[.string s] w (NumPost (num s.data.toList) w) := by
  refine (qread_c s w htab).mono fun e w' h => ⟨h.1, ?_⟩
  obtain ⟨-, b, p, n, c, q, m, d, he, hr⟩ := h
  unfold num
  cases hq : readQ s.data.toList with
  | none => rw [hq] at he; exact ⟨b, p, n, c, q, m, d, he, fun r h => by cases h⟩
  | some t =>
    obtain ⟨sg, x, y⟩ := t
    rw [hq] at he hr
    refine ⟨b, p, n, c, q, m, d, he, ?_⟩
    rintro r h
    cases h
    obtain ⟨h1, h2, h3⟩ := readQ_lt hq
    exact ⟨sg, x, y, hr _ _ _ rfl, rfl, h3, h1, h2⟩
end Go.Proofs.YtpnofkefcoaojaaGreatDoor
namespace Go.Proofs.YtpnofkefcoaojaaGreatDoor
open Go.RowKit Go.Lib Big
def TxtPost (l : List UInt8) (w : World) (e : Ending) (w' : World) : Prop := e = .returned (.string ⟨l.toArray⟩) ∧ Below w.heap.size w w'
theorem sign_is (x : Value) (q : Rat) (K : Nat) (w : World) (hx : RatIs w x q K) : Calls Tryz.prog 135 #[x] w fun e w' => e = .returned (.int .i64 (sgnR q)) ∧ Below w.heap.size w w' := by
  obtain ⟨s, a, b, h1, rfl, h3, h4, h5⟩ := hx
  have e : sgn s a = sgnR (ratv s a b) := by
    obtain ⟨g1, g2, g3⟩ := ratv_num h3 (ratAt_flag h1)
    have hz := ratv_zero_iff (s := s) (a := a) h3
    unfold sgn sgnR
    have hn : (ratv s a b < 0) ↔ (ratv s a b).num < 0 := by have := Rat.num_nonneg (q := ratv s a b); grind
    cases s
    · rw [decide_eq_false_iff_not] at g1
      rw [if_neg (by simp), if_neg (fun h => g1 (hn.1 h))]
      by_cases ha : a = 0
      · rw [if_pos ha, if_pos (hz.2 ha)]
      · rw [if_neg ha, if_neg (fun h => ha (hz.1 h))]
    · rw [decide_eq_true_iff] at g1
      rw [if_pos rfl, if_pos (hn.2 g1)]
  rw [← e]
  exact sign_any x s a b w h1
end Go.Proofs.YtpnofkefcoaojaaGreatDoor
namespace Go.Proofs.YtpnofkefcoaojaaGreatDoor
open Go.RowKit Go.Lib Big
/-! isPositive -/
end Go.Proofs.YtpnofkefcoaojaaGreatDoor
namespace Go.Proofs.YtpnofkefcoaojaaGreatDoor
open Go.RowKit Go.Lib Big
end Go.Proofs.YtpnofkefcoaojaaGreatDoor
