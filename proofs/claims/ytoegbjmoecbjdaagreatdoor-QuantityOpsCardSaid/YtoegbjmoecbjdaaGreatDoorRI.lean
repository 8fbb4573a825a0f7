/- The document's division and greatest common divisor of any two numbers. -/
import Derived.Test.YtoegbjmoecbjdaaGreatDoorRH
set_option maxHeartbeats 1600000
set_option maxRecDepth 100000
namespace Go.Proofs.YtoegbjmoecbjdaaGreatDoor
open Go.RowKit Big
structure GcdAt (w wr : World) (a b K : Nat) (xv yv : Value) (x y : Nat) : Prop where
  rx : Nat9 wr xv x
  ry : Nat9 wr yv y
  xlt : x < B9 ^ K
  ylt : y < B9 ^ K
  eq : Nat.gcd x y = Nat.gcd a b
  below : Below w.heap.size w wr
theorem Nat9.unique {w : World} {v : Value} {x y : Nat} (h : Nat9 w v x) (k : Nat9 w v y) : x = y := by
  obtain ⟨p, n, c, l, rfl, h2, h3, h4, h5⟩ := h
  obtain ⟨p', n', c', l', e, k2, k3, k4, k5⟩ := k
  cases e
  have e : l = l' := by
    apply List.ext_getElem
    · rw [h3.len, k3.len]
    · intro i h1 h1'
      have hi : i < n := by rw [h3.len] at h1; exact h1
      obtain ⟨b, o, e1, _, c1⟩ := h3.opened (by omega)
      obtain ⟨b', o', e1', _, c1'⟩ := k3.opened (by omega)
      rw [e1] at e1'; cases e1'
      have h6 := c1 i hi
      rw [c1' i hi] at h6
      simp only [Option.some.injEq, Value.int.injEq, true_and] at h6
      rw [List.getD_eq_getElem?_getD, List.getD_eq_getElem?_getD, List.getElem?_eq_getElem h1, List.getElem?_eq_getElem h1'] at h6
      simp at h6; omega
  rw [← h5, ← k5, e]
theorem epsilon9 {w : World} {v : Value} {x : Nat} (h : Nat9 w v x) : (Classical.epsilon fun y => Nat9 w v y) = x :=
  (Classical.epsilon_spec (p := fun y => Nat9 w v y) ⟨x, h⟩).unique h
theorem natDiv_nat (u v : Value) (a b K : Nat) (w : World) (hK : K ≤ 900000) (ha : a < B9 ^ K) (hb : b < B9 ^ K) (hb0 : 0 < b) (hu : Nat9 w u a) (hv : Nat9 w v b) :
    Calls Tryz.prog 136 #[u, v] w (DivPost9 a b w) := by
  by_cases h : a < b
  · obtain ⟨p, n, c, x, rfl, h1, h2, h3, h4⟩ := hu
    exact natDiv_lt p n c x v a b K w (by omega) ha hb h h1 h2 h3 h4 hv
  · obtain ⟨p, n, c, x, rfl, h1, h2, h3, h4⟩ := hu
    obtain ⟨q, m, d, y, rfl, g1, g2, g3, g4⟩ := hv
    by_cases h5 : b < B9
    · exact natDiv_one p n c x q m d y a b K w (by omega) ha hb0 h5 (by omega) h1 h2 h3 h4 g1 g2 g3 g4
    · exact natDiv_long p n c x q m d y a b K w hK ha (by omega) (by omega) h1 h2 h3 h4 g1 g2 g3 g4
theorem natGcd_nat (u v : Value) (a b K : Nat) (w : World) (hK : K ≤ 900000) (ha : a < B9 ^ K) (hb : b < B9 ^ K) (hu : Nat9 w u a) (hv : Nat9 w v b) :
    Calls Tryz.prog 137 #[u, v] w fun e w' => ∃ g, e = .returned g ∧ Nat9 w' g (Nat.gcd a b) ∧ Below w.heap.size w w' := by
  obtain ⟨p0, n0, c0, rfl⟩ := hu.slice
  obtain ⟨q0, m0, d0, rfl⟩ := hv.slice
  have hst : Hid (GcdAt w w a b K (.slice p0 n0 c0) (.slice q0 m0 d0) a b) := hiD ⟨hu, hv, ha, hb, rfl, Below.refl _ _⟩
  have hKi := hiD hK
  clear hu hv ha hb hK
  go_enter Tryz.func137, Tryz.ntmps137
  go_wp2_with fail
  go_loopw [0, 1] (fun xv yv wr => ∃ (x y : Nat) (p : Option Addr) (n c : Nat) (q : Option Addr) (m d : Nat), xv = .slice p n c ∧ yv = .slice q m d ∧ Hid (GcdAt w wr a b K xv yv x y)) (fun _ yv wr => (Classical.epsilon fun y => Nat9 wr yv y))
  case atStart => exact ⟨a, b, _, _, _, _, _, _, rfl, rfl, hst⟩
  case round =>
    obtain ⟨x, y, p, n, c, q, m, d, rfl, rfl, hat⟩ := hrel
    by_cases h0 : y = 0
    · have hm0 : m = 0 := hat.out.ry.zero_iff.2 h0
      subst hm0
      have hfin : Hid (Nat9 wr (.slice p n c) (Nat.gcd a b)) := hiD (by
        have h := hat.out.eq
        rw [h0, Nat.gcd_zero_right] at h
        rw [← h]; exact hat.out.rx)
      clear h0
      go_wp2_with fail
      go_ret
      exact ⟨_, rfl, hfin.out, hat.out.below⟩
    · have hm0 : (0 : Int) < m := by
        have := (hat.out.ry.zero_iff (n := m)).1
        have h1 : m ≠ 0 := fun h => h0 (this h)
        omega
      have hdiv := hiD (natDiv_nat _ _ x y K wr hKi.out hat.out.xlt hat.out.ylt (by omega) hat.out.rx hat.out.ry)
      have H0 := hiD h0
      clear h0
      go_wp2_with fail
      refine hdiv.out.mono ?_
      rintro e w1 ⟨v1, r1, rfl, hv1, hr1, hb1⟩
      obtain ⟨p1, n1, c1, rfl⟩ := hv1.slice
      obtain ⟨p2, n2, c2, rfl⟩ := hr1.slice
      have hlt : x % y < y := Nat.mod_lt _ (by have := H0.out; omega)
      have hnext : Hid (GcdAt w w1 a b K (.slice q m d) (.slice p2 n2 c2) y (x % y)) := hiD ⟨hat.out.ry.below hb1, hr1, hat.out.ylt, by have := hat.out.ylt; omega, by rw [← hat.out.eq, Nat.gcd_comm y, ← Nat.gcd_rec, Nat.gcd_comm], hat.out.below.trans (hb1.mono hat.out.below.size)⟩
      have hmeas : Hid ((Classical.epsilon fun y => Nat9 w1 (.slice p2 n2 c2) y) < (Classical.epsilon fun y => Nat9 wr (.slice q m d) y)) := hiD (by
        rw [epsilon9 hnext.out.ry, epsilon9 hat.out.ry]; exact hlt)
      clear hv1 hr1 hb1 hlt
      go_wp2_with fail
      go_roundw
      case rel => exact ⟨y, x % y, _, _, _, _, _, _, rfl, rfl, hnext⟩
      case measure => exact hmeas.out
end Go.Proofs.YtoegbjmoecbjdaaGreatDoor
