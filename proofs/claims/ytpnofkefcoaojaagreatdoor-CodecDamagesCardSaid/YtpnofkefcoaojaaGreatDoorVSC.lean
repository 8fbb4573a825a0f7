/-  -/
import Derived.Test.YtpnofkefcoaojaaGreatDoorQL
import Derived.Outline
import Derived.Test.YtpnofkefcoaojaaGreatDoorV06
import Derived.Lib.CutLaws
import Derived.Test.YtpnofkefcoaojaaGreatDoorV05
set_option maxHeartbeats 3200000
set_option maxRecDepth 100000
namespace Go.Proofs.YtpnofkefcoaojaaGreatDoor
open Go.RowKit Big
theorem pos_of_flag {s : Bool} {q : Nat} (h : (s && !(q == 0)) = true) : 0 < q := by
  rw [Bool.and_eq_true] at h
  have := h.2
  simp at this; omega
def floorN (s : Bool) (a b : Nat) : Nat := a / b + (if s && !(a % b == 0) then 1 else 0)
theorem floor_any (x : Value) (s : Bool) (a b K : Nat) (w : World) (hK : K + 2 ≤ 1073741824) (ha : a < B64 ^ K) (hb : b < B64 ^ K) (hb0 : 0 < b) (hx : RatAt w x s a b) : Calls Tryz.prog 90 #[x] w (RatPost s (floorN s a b) 1 w) := by
  obtain ⟨u1, v1, rfl, hu1, hv1, hs1⟩ := hx
  obtain ⟨p1, n1, k1, rfl⟩ := hu1.slice
  obtain ⟨p2, n2, k2, rfl⟩ := hv1.slice
  have hone := One.start w s (.slice p1 n1 k1) (.slice p2 n2 k2)
  obtain ⟨c0, c1, c2⟩ := hone.cells
  have Hone := hiD hone
  have hdiv : Hid (∀ W, Below w.heap.size w W → Calls Tryz.prog 140 #[.slice p1 n1 k1, .slice p2 n2 k2] W (QuoPost a b W)) := hiD fun W h => divided_nat _ _ a b K W (by unfold most; omega) ha hb hb0 (hu1.below h) (hv1.below h)
  have hqB : Hid (a / b < B64 ^ K) := hiD (Nat.lt_of_le_of_lt (Nat.div_le_self _ _) ha)
  have HK := hiD hK
  have hB1 : Hid (1 < B64) := hiD (by rw [B64_eq]; omega)
  clear hone hu1 hv1 hs1 ha hb hb0 hK
  -- the end, from the quotient's value on
  have hend : Hid (∀ (W3 : World) (qv : Value) (q : Nat), One w.heap.size s (.slice p1 n1 k1) (.slice p2 n2 k2) w W3 → NatAt W3 qv q → ∀ T, Calls Tryz.prog 132 #[.bool s, qv, .slice (some ⟨W3.heap.size, 0, none⟩) 1 1] (W3.alloc (.cells #[.int .u64 1] T)) fun e w' =>
      ∃ p n c m, e = .returned (.agg #[.bool (s && !(q == 0)), .slice p n c, .slice (some ⟨m, 0, none⟩) 1 1]) ∧ One w.heap.size s (.slice p1 n1 k1) (.slice p2 n2 k2) w w' ∧ NatAt w' (.slice p n c) q ∧ NatAt w' (.slice (some ⟨m, 0, none⟩) 1 1) 1) := hiD (by
    intro W3 qv q h1 h2 T
    obtain ⟨p, n, c, rfl⟩ := h2.slice
    refine (signed_nat s _ _ q 1 _ (h2.below (bea _ _)) (natAt_box W3 1 T (by omega) hB1.out)).mono ?_
    rintro e w' ⟨rfl, hb⟩
    exact ⟨p, n, c, _, rfl, (h1.next (bea _ _)).next hb, (h2.below (bea _ _)).below hb, (natAt_box W3 1 T (by omega) hB1.out).below hb⟩)
  go_enter Tryz.func90, Tryz.ntmps90
  go_wp2_with fail
  refine (hdiv.out _ Hone.out.below).mono ?_
  rintro e w2 ⟨vq, vr, rfl, hq, hr, hb2⟩
  have htw := Hone.out.next hb2
  obtain ⟨c0, c1, c2⟩ := htw.cells
  obtain ⟨pq, nq, kq, rfl⟩ := hq.slice
  obtain ⟨pr, nr, kr, rfl⟩ := hr.slice
  have hrz := hiD (natAt_zero_iff hr)
  have Htw := hiD htw
  have Hq := hiD hq
  clear htw hq hr
  cases s with
  | false =>
    have hfl : Hid (floorN false a b = a / b) := hiD (by simp [floorN])
    go_wp2_with fail
    refine (hend.out _ _ (a / b) Htw.out Hq.out _).mono ?_
    rintro e w3 ⟨p, n, c, m, rfl, h1, h2, h3⟩
    obtain ⟨z0, z1, z2, l0, l1, l2, f0, f1, f2⟩ := h1.slots
    have q1 := h1.nat3 (Nat.le_refl _) h2 (false && !((a / b) == 0)) p (some ⟨m, 0, none⟩) n c 1 1
    have q2 := h1.nat3 (Nat.le_refl _) h3 (false && !((a / b) == 0)) p (some ⟨m, 0, none⟩) n c 1 1
    have q3 := (h1.put3 (Nat.le_refl _) (false && !((a / b) == 0)) p (some ⟨m, 0, none⟩) n c 1 1).below
    have hfin : Hid (∀ W, W = (((w3.setCell ⟨w.heap.size + 1, 0, none⟩ (.bool (false && !((a / b) == 0)))).setCell ⟨w.heap.size + 1, 1, none⟩ (.slice p n c)).setCell ⟨w.heap.size + 1, 2, none⟩ (.slice (some ⟨m, 0, none⟩) 1 1)) → RatPost false (floorN false a b) 1 w (.returned (.agg #[.bool (false && !((a / b) == 0)), .slice p n c, .slice (some ⟨m, 0, none⟩) 1 1])) W) := hiD (by
      rintro W rfl
      rw [hfl.out]
      exact ⟨_, rfl, ⟨_, _, rfl, q1, q2, pos_of_flag⟩, q3⟩)
    clear q1 q2 q3 h1 h2 h3
    go_wp2_with fail
    refine bodyPost_ret (v := .agg #[.bool (false && !((a / b) == 0)), .slice p n c, .slice (some ⟨m, 0, none⟩) 1 1]) (by simp [results, Tryz.results90, go_sem, l0, l1, l2]) rfl ?_
    exact hfin.out _ rfl
  | true =>
    by_cases h0 : a % b = 0
    · have hfl : Hid (floorN true a b = a / b) := hiD (by simp [floorN, h0])
      have hnz : ((nr : Int) == 0) = true := by rw [beq_iff_eq]; have := hrz.out.2 h0; omega
      clear h0
      go_wp2_with fail
      refine (isZero_any _ _ _ _).mono ?_
      rintro e w5 ⟨rfl, rfl⟩
      rw [hnz]
      go_wp2_with fail
      refine (hend.out _ _ (a / b) Htw.out Hq.out _).mono ?_
      rintro e w3 ⟨p, n, c, m, rfl, h1, h2, h3⟩
      obtain ⟨z0, z1, z2, l0, l1, l2, f0, f1, f2⟩ := h1.slots
      have q1 := h1.nat3 (Nat.le_refl _) h2 (true && !((a / b) == 0)) p (some ⟨m, 0, none⟩) n c 1 1
      have q2 := h1.nat3 (Nat.le_refl _) h3 (true && !((a / b) == 0)) p (some ⟨m, 0, none⟩) n c 1 1
      have q3 := (h1.put3 (Nat.le_refl _) (true && !((a / b) == 0)) p (some ⟨m, 0, none⟩) n c 1 1).below
      have hfin : Hid (∀ W, W = (((w3.setCell ⟨w.heap.size + 1, 0, none⟩ (.bool (true && !((a / b) == 0)))).setCell ⟨w.heap.size + 1, 1, none⟩ (.slice p n c)).setCell ⟨w.heap.size + 1, 2, none⟩ (.slice (some ⟨m, 0, none⟩) 1 1)) → RatPost true (floorN true a b) 1 w (.returned (.agg #[.bool (true && !((a / b) == 0)), .slice p n c, .slice (some ⟨m, 0, none⟩) 1 1])) W) := hiD (by
        rintro W rfl
        rw [hfl.out]
        exact ⟨_, rfl, ⟨_, _, rfl, q1, q2, pos_of_flag⟩, q3⟩)
      clear q1 q2 q3 h1 h2 h3
      go_wp2_with fail
      refine bodyPost_ret (v := .agg #[.bool (true && !((a / b) == 0)), .slice p n c, .slice (some ⟨m, 0, none⟩) 1 1]) (by simp [results, Tryz.results90, go_sem, l0, l1, l2]) rfl ?_
      exact hfin.out _ rfl
    · have hfl : Hid (floorN true a b = a / b + 1) := hiD (by simp [floorN, h0])
      have hnz : ((nr : Int) == 0) = false := by rw [beq_eq_false_iff_ne]; have := hrz.out.1; omega
      clear h0
      go_wp2_with fail
      refine (isZero_any _ _ _ _).mono ?_
      rintro e w5 ⟨rfl, rfl⟩
      rw [hnz]
      go_wp2_with fail
      have hadd : ∀ T, Hid (Calls Tryz.prog 138 #[.slice pq nq kq, .slice (some ⟨w2.heap.size, 0, none⟩) 1 1] (w2.alloc (.cells #[.int .u64 1] T)) (NatPost (a / b + 1) (w2.alloc (.cells #[.int .u64 1] T)))) := fun T => hiD (plus_nat _ _ _ 1 (K + 1) _ (by have := HK.out; unfold most; omega)
        (by have h1 := hqB.out; have h2 : B64 ^ K ≤ B64 ^ (K + 1) := Nat.pow_le_pow_right B64_pos (by omega); omega)
        (by have h1 := hB1.out; have h2 : B64 ^ 1 ≤ B64 ^ (K + 1) := Nat.pow_le_pow_right B64_pos (by omega); rw [Nat.pow_one] at h2; omega)
        (Hq.out.below (bea _ _)) (natAt_box w2 1 T (by omega) hB1.out))
      refine (hadd _).out.mono ?_
      rintro e w6 ⟨v6, rfl, hv6, hb6⟩
      have htw6 := (Htw.out.next (bea _ _)).next hb6
      obtain ⟨c0, c1, c2⟩ := htw6.cells
      have Htw6 := hiD htw6
      have Hv6 := hiD hv6
      clear htw6 hv6 hb6 hadd
      go_wp2_with fail
      refine (hend.out _ _ (a / b + 1) Htw6.out Hv6.out _).mono ?_
      rintro e w3 ⟨p, n, c, m, rfl, h1, h2, h3⟩
      obtain ⟨z0, z1, z2, l0, l1, l2, f0, f1, f2⟩ := h1.slots
      have q1 := h1.nat3 (Nat.le_refl _) h2 (true && !((a / b + 1) == 0)) p (some ⟨m, 0, none⟩) n c 1 1
      have q2 := h1.nat3 (Nat.le_refl _) h3 (true && !((a / b + 1) == 0)) p (some ⟨m, 0, none⟩) n c 1 1
      have q3 := (h1.put3 (Nat.le_refl _) (true && !((a / b + 1) == 0)) p (some ⟨m, 0, none⟩) n c 1 1).below
      have hfin : Hid (∀ W, W = (((w3.setCell ⟨w.heap.size + 1, 0, none⟩ (.bool (true && !((a / b + 1) == 0)))).setCell ⟨w.heap.size + 1, 1, none⟩ (.slice p n c)).setCell ⟨w.heap.size + 1, 2, none⟩ (.slice (some ⟨m, 0, none⟩) 1 1)) → RatPost true (floorN true a b) 1 w (.returned (.agg #[.bool (true && !((a / b + 1) == 0)), .slice p n c, .slice (some ⟨m, 0, none⟩) 1 1])) W) := hiD (by
        rintro W rfl
        rw [hfl.out]
        exact ⟨_, rfl, ⟨_, _, rfl, q1, q2, pos_of_flag⟩, q3⟩)
      clear q1 q2 q3 h1 h2 h3
      go_wp2_with fail
      refine bodyPost_ret (v := .agg #[.bool (true && !((a / b + 1) == 0)), .slice p n c, .slice (some ⟨m, 0, none⟩) 1 1]) (by simp [results, Tryz.results90, go_sem, l0, l1, l2]) rfl ?_
      exact hfin.out _ rfl
end Go.Proofs.YtpnofkefcoaojaaGreatDoor
namespace Go.Proofs.YtpnofkefcoaojaaGreatDoor
open Go.RowKit Big
end Go.Proofs.YtpnofkefcoaojaaGreatDoor
namespace Go.Proofs.YtpnofkefcoaojaaGreatDoor
open Go.RowKit Big
end Go.Proofs.YtpnofkefcoaojaaGreatDoor
namespace Go.Proofs.YtpnofkefcoaojaaGreatDoor
open Go.RowKit Big
end Go.Proofs.YtpnofkefcoaojaaGreatDoor
namespace Go.Proofs.YtpnofkefcoaojaaGreatDoor
open Go.RowKit Big
end Go.Proofs.YtpnofkefcoaojaaGreatDoor
namespace Go.Proofs.YtpnofkefcoaojaaGreatDoor
open Go.RowKit Big
end Go.Proofs.YtpnofkefcoaojaaGreatDoor
namespace Go.Proofs.YtpnofkefcoaojaaGreatDoor
open Go.RowKit Big
end Go.Proofs.YtpnofkefcoaojaaGreatDoor
namespace Go.Proofs.YtpnofkefcoaojaaGreatDoor
open Go.RowKit Big
end Go.Proofs.YtpnofkefcoaojaaGreatDoor
set_option maxHeartbeats 1600000
set_option maxRecDepth 100000
namespace Go.Proofs.YtpnofkefcoaojaaGreatDoor
open Go.RowKit Go.Lib Big
end Go.Proofs.YtpnofkefcoaojaaGreatDoor
namespace Go.Proofs.YtpnofkefcoaojaaGreatDoor
open Go.RowKit Go.Lib Big
end Go.Proofs.YtpnofkefcoaojaaGreatDoor
namespace Go.Proofs.YtpnofkefcoaojaaGreatDoor
open Go.RowKit Go.Lib Big
end Go.Proofs.YtpnofkefcoaojaaGreatDoor
namespace Go.Proofs.YtpnofkefcoaojaaGreatDoor
open Go.RowKit Go.Lib Big
end Go.Proofs.YtpnofkefcoaojaaGreatDoor
namespace Go.Proofs.YtpnofkefcoaojaaGreatDoor
open Go.RowKit Go.Lib Big
end Go.Proofs.YtpnofkefcoaojaaGreatDoor
namespace Go.Proofs.YtpnofkefcoaojaaGreatDoor
open Go.RowKit Go.Lib Big
end Go.Proofs.YtpnofkefcoaojaaGreatDoor
namespace Go.Proofs.YtpnofkefcoaojaaGreatDoor
open Go.RowKit Go.Lib Big
def ReadC (o : Option (Bool × Nat × Nat)) (w : World) (e : Ending) (w' : World) : Prop :=
  Below w.heap.size w w' ∧ ∃ b p n c q m d, e = .returned (.tuple #[.agg #[.bool b, .slice p n c, .slice q m d], .bool o.isSome]) ∧ ∀ s x y, o = some (s, x, y) → RatAt w' (.agg #[.bool b, .slice p n c, .slice q m d]) s x y
theorem qread_c (s : ByteArray) (w : World) (htab : Tab w) : Calls Tryz.prog 130 #[.string s] w (ReadC (readQ s.data.toList) w) := by
  refine (qread_any s w htab).mono fun e w' h => ⟨h.1, ?_⟩
  have h2 := h.2
  cases hq : readQ s.data.toList with
  | none => rw [hq] at h2; exact ⟨_, _, _, _, _, _, _, h2, fun _ _ _ h => by cases h⟩
  | some t =>
    rw [hq] at h2
    obtain ⟨x, rfl, u, v, rfl, hu, hv, hs⟩ := h2
    obtain ⟨p2, n2, k2, rfl⟩ := hu.slice
    obtain ⟨p3, n3, k3, rfl⟩ := hv.slice
    refine ⟨_, _, _, _, _, _, _, rfl, ?_⟩
    rintro _ _ _ h
    cases h
    exact ⟨_, _, rfl, hu, hv, hs⟩
theorem closure_bad1 (x y : ByteArray) (g : Addr) (w : World) (hx : Hid (Calls Tryz.prog 130 #[.string x] w (ReadC none w))) : Calls Tryz.prog 129 #[.string x, .string y, .pointer (some g)] w fun e w' => e = .returned (.string ⟨#[]⟩) ∧ Below w.heap.size w w' := by
  go_enter Tryz.func129, Tryz.ntmps129
  go_wp2_with fail
  refine hx.out.mono ?_
  rintro e w2 ⟨hb2, b, p, n, c, q, m, d, rfl, -⟩
  have hbw := hiD (hb2.trans ((bea w2 (.cells #[.bool b, .slice p n c, .slice q m d] 98)).mono hb2.size))
  clear hb2
  go_wp2_with fail
  go_ret
  exact ⟨rfl, hbw.out⟩
end Go.Proofs.YtpnofkefcoaojaaGreatDoor
namespace Go.Proofs.YtpnofkefcoaojaaGreatDoor
open Go.RowKit Go.Lib Big
end Go.Proofs.YtpnofkefcoaojaaGreatDoor
namespace Go.Proofs.YtpnofkefcoaojaaGreatDoor
open Go.Lib Big
/-! Digits -/
end Go.Proofs.YtpnofkefcoaojaaGreatDoor
namespace Go.Proofs.YtpnofkefcoaojaaGreatDoor
open Go.Lib Big
/-! Compare -/
def sgnR (q : Rat) : Int := if q < 0 then -1 else if q = 0 then 0 else 1
theorem sgnR_cases (q : Rat) : (q < 0 ∧ sgnR q = -1) ∨ (q = 0 ∧ sgnR q = 0) ∨ (0 < q ∧ sgnR q = 1) := by
  unfold sgnR
  by_cases h : q < 0
  · exact .inl ⟨h, by rw [if_pos h]⟩
  · by_cases h2 : q = 0
    · exact .inr (.inl ⟨h2, by rw [if_neg h, if_pos h2]⟩)
    · exact .inr (.inr ⟨by grind, by rw [if_neg h, if_neg h2]⟩)
end Go.Proofs.YtpnofkefcoaojaaGreatDoor
namespace Go.Proofs.YtpnofkefcoaojaaGreatDoor
open Go.Lib Big
end Go.Proofs.YtpnofkefcoaojaaGreatDoor
set_option maxHeartbeats 3200000
set_option maxRecDepth 100000
namespace Go.Proofs.YtpnofkefcoaojaaGreatDoor
open Go.Lib Big
def posT (x : List UInt8) : Bool := match num x with
  | some q => decide (0 < q)
  | none => false
/-! Convert -/
end Go.Proofs.YtpnofkefcoaojaaGreatDoor
namespace Go.Proofs.YtpnofkefcoaojaaGreatDoor
open Go.Lib Big
end Go.Proofs.YtpnofkefcoaojaaGreatDoor
namespace Go.Proofs.YtpnofkefcoaojaaGreatDoor
open Go.Lib Big
end Go.Proofs.YtpnofkefcoaojaaGreatDoor
namespace Go.Proofs.YtpnofkefcoaojaaGreatDoor
open Go.RowKit Go.Lib Big
theorem ratAt_flag {w : World} {x : Value} {s : Bool} {a b : Nat} (h : RatAt w x s a b) : s = true → 0 < a := by
  obtain ⟨u, v, -, -, -, h⟩ := h; exact h
def IsPost (q : Rat) (K : Nat) (w : World) (e : Ending) (w' : World) : Prop := ∃ x, e = .returned x ∧ RatIs w' x q K ∧ Below w.heap.size w w'
theorem add_is (x y : Value) (p q : Rat) (K : Nat) (w : World) (hK : 2 * K + 1 ≤ 1073741824) (hx : RatIs w x p K) (hy : RatIs w y q K) : Calls Tryz.prog 89 #[x, y] w (IsPost (p + q) (2 * K + 1) w) := by
  obtain ⟨s, a, b, h1, rfl, h3, h4, h5⟩ := hx
  obtain ⟨t, c, d, k1, rfl, k3, k4, k5⟩ := hy
  refine (add_any x y s t a b c d K w hK h4 h5 k4 k5 h3 k3 h1 k1).mono ?_
  rintro e w' ⟨z, r, n, m, rfl, hz, hb, hm, hv, hn, hm2⟩
  exact ⟨z, rfl, ⟨r, n, m, hz, hv, hm, hn, hm2⟩, hb⟩
theorem mul_lt2 {a b K : Nat} (ha : a < B64 ^ K) (hb : b < B64 ^ K) : a * b < B64 ^ (2 * K) := by
  rw [pow_two]
  exact Nat.mul_lt_mul'' ha hb
theorem mul_is (x y : Value) (p q : Rat) (K : Nat) (w : World) (hK : K ≤ 1073741824) (hx : RatIs w x p K) (hy : RatIs w y q K) : Calls Tryz.prog 91 #[x, y] w (IsPost (p * q) (2 * K) w) := by
  obtain ⟨s, a, b, h1, rfl, h3, h4, h5⟩ := hx
  obtain ⟨t, c, d, k1, rfl, k3, k4, k5⟩ := hy
  refine (mul_any x y s t a b c d K w hK h4 h5 k4 k5 h1 k1).mono ?_
  rintro e w' ⟨z, rfl, hz, hb⟩
  exact ⟨z, rfl, ⟨_, _, _, hz, by rw [ratv_drop, ratv_mul h3 k3], Nat.mul_pos h3 k3, mul_lt2 h4 k4, mul_lt2 h5 k5⟩, hb⟩
theorem ratv_zero_iff {s : Bool} {a b : Nat} (hb : 0 < b) : ratv s a b = 0 ↔ a = 0 := by
  have h1 := natCast_ne hb
  constructor
  · intro h
    unfold ratv at h
    apply Nat.eq_zero_of_not_pos
    intro ha
    have h2 := natCast_ne ha
    cases s
    · simp only [Bool.false_eq_true, if_false] at h; grind
    · simp only [if_true] at h; grind
  · rintro rfl
    unfold ratv
    cases s <;> simp <;> grind
theorem quo_is (x y : Value) (p q : Rat) (K : Nat) (w : World) (hK : K ≤ 1073741824) (hq : q ≠ 0) (hx : RatIs w x p K) (hy : RatIs w y q K) : Calls Tryz.prog 79 #[x, y] w (IsPost (p / q) (2 * K) w) := by
  obtain ⟨s, a, b, h1, rfl, h3, h4, h5⟩ := hx
  obtain ⟨t, c, d, k1, rfl, k3, k4, k5⟩ := hy
  have hc : 0 < c := by
    apply Nat.pos_of_ne_zero; intro h0; exact hq ((ratv_zero_iff k3).2 h0)
  refine (quo_any x y s t a b c d K w hK h4 h5 k4 k5 h1 k1).mono ?_
  rintro e w' ⟨z, rfl, hz, hb⟩
  exact ⟨z, rfl, ⟨_, _, _, hz, by rw [ratv_drop, ratv_quo h3 k3 hc], Nat.mul_pos h3 hc, mul_lt2 h4 k5, mul_lt2 h5 k4⟩, hb⟩
theorem qtext_is (x : Value) (q : Rat) (K : Nat) (w : World) (hK : K ≤ 1000000) (hx : RatIs w x q K) (htab : Tab w) : Calls Tryz.prog 131 #[x] w fun e w' => e = .returned (.string ⟨(txt q).toArray⟩) ∧ Below w.heap.size w w' := by
  obtain ⟨s, a, b, h1, rfl, h3, h4, h5⟩ := hx
  rw [← numText_txt h3 (ratAt_flag h1)]
  exact qtext_any x s a b K w hK h4 h5 h3 h1 htab
theorem readQ_lt {l : List UInt8} {s : Bool} {n d : Nat} (h : readQ l = some (s, n, d)) : n < B64 ^ 20 ∧ d < B64 ^ 20 ∧ 0 < d := by
  unfold readQ at h
  split at h
  · cases h
  · rename_i hl
    split at h
    · rename_i s0 n0 d0 hr
      split at h
      · cases h; exact readL_lt hr (by omega)
      · cases h
    · cases h
def NumPost (o : Option Rat) (w : World) (e : Ending) (w' : World) : Prop :=
  Below w.heap.size w w' ∧ ∃ b p n c q m d, e = .returned (.tuple #[.agg #[.bool b, .slice p n c, .slice q m d], .bool o.isSome]) ∧ ∀ r, o = some r → RatIs w' (.agg #[.bool b, .slice p n c, .slice q m d]) r 20
theorem qread_is (s : ByteArray) (w : World) (htab : Tab w) : Calls Tryz.prog 130 #[.string s] w (NumPost (num s.data.toList) w) := by
  refine (qread_c s w htab).mono fun e w' h => ⟨h.1, ?_⟩
  obtain ⟨-, b, p, n, c, q, m, d, he, hr⟩ := h
  unfold num
  cases hq : readQ s.data.toList with
  | none => rw [hq] at he; exact ⟨b, p, n, c, q, m, d, he, fun r h => by cases h⟩
  | some t =>
    obtain ⟨sg, x, y⟩ := t
    rw [hq] at he hr
    refine ⟨b, p, n, c, q, m, d, he, ?_⟩
    rintro r h
    cases h
    obtain ⟨h1, h2, h3⟩ := readQ_lt hq
    exact ⟨sg, x, y, hr _ _ _ rfl, rfl, h3, h1, h2⟩
end Go.Proofs.YtpnofkefcoaojaaGreatDoor
namespace Go.Proofs.YtpnofkefcoaojaaGreatDoor
open Go.RowKit Go.Lib Big
def TxtPost (l : List UInt8) (w : World) (e : Ending) (w' : World) : Prop := e = .returned (.string ⟨l.toArray⟩) ∧ Below w.heap.size w w'
theorem sign_is (x : Value) (q : Rat) (K : Nat) (w : World) (hx : RatIs w x q K) : Calls Tryz.prog 135 #[x] w fun e w' => e = .returned (.int .i64 (sgnR q)) ∧ Below w.heap.size w w' := by
  obtain ⟨s, a, b, h1, rfl, h3, h4, h5⟩ := hx
  have e : sgn s a = sgnR (ratv s a b) := by
    obtain ⟨g1, g2, g3⟩ := ratv_num h3 (ratAt_flag h1)
    have hz := ratv_zero_iff (s := s) (a := a) h3
    unfold sgn sgnR
    have hn : (ratv s a b < 0) ↔ (ratv s a b).num < 0 := by have := Rat.num_nonneg (q := ratv s a b); grind
    cases s
    · rw [decide_eq_false_iff_not] at g1
      rw [if_neg (by simp), if_neg (fun h => g1 (hn.1 h))]
      by_cases ha : a = 0
      · rw [if_pos ha, if_pos (hz.2 ha)]
      · rw [if_neg ha, if_neg (fun h => ha (hz.1 h))]
    · rw [decide_eq_true_iff] at g1
      rw [if_pos rfl, if_pos (hn.2 g1)]
  rw [← e]
  exact sign_any x s a b w h1
end Go.Proofs.YtpnofkefcoaojaaGreatDoor
namespace Go.Proofs.YtpnofkefcoaojaaGreatDoor
open Go.RowKit Go.Lib Big
/-! isPositive -/
theorem pos_bad (x : ByteArray) (w : World) (hx : Hid (Calls Tryz.prog 130 #[.string x] w (NumPost none w))) : Calls Tryz.prog 86 #[.string x] w fun e w' => e = .returned (.bool false) ∧ Below w.heap.size w w' := by
  go_enter Tryz.func86, Tryz.ntmps86
  go_wp2_with fail
  refine hx.out.mono ?_
  rintro e w2 ⟨hb2, b, p, n, c, q, m, d, rfl, -⟩
  have hbw := hiD (hb2.trans ((bea w2 (.cells #[.bool b, .slice p n c, .slice q m d] 98)).mono hb2.size))
  clear hb2
  go_wp2_with fail
  go_ret
  exact ⟨rfl, hbw.out⟩
theorem pos_ok (x : ByteArray) (r : Rat) (w : World) (hx : Hid (Calls Tryz.prog 130 #[.string x] w (NumPost (some r) w))) : Calls Tryz.prog 86 #[.string x] w fun e w' => e = .returned (.bool (decide ((0 : Int) < sgnR r))) ∧ Below w.heap.size w w' := by
  have hsg : Hid (∀ W z, RatIs W z r 20 → Calls Tryz.prog 135 #[z] W fun e w' => e = .returned (.int .i64 (sgnR r)) ∧ Below W.heap.size W w') := hiD fun W z hz => sign_is z r 20 W hz
  generalize sgnR r = c at hsg ⊢
  go_enter Tryz.func86, Tryz.ntmps86
  go_wp2_with fail
  refine hx.out.mono ?_
  rintro e w2 ⟨hb2, b1, p1, n1, c1, q1, m1, d1, rfl, hr1⟩
  have hbw := hiD (hb2.trans ((bea w2 (.cells #[.bool b1, .slice p1 n1 c1, .slice q1 m1 d1] 98)).mono hb2.size))
  have hR1 := (hr1 _ rfl).below (bea w2 (.cells #[.bool b1, .slice p1 n1 c1, .slice q1 m1 d1] 98))
  have ht := hiD (hsg.out _ _ hR1)
  clear hb2 hr1 hR1
  go_wp2_with fail
  refine ht.out.mono ?_
  rintro e w6 ⟨rfl, hb6⟩
  have hbw6 := hiD (hbw.out.trans (hb6.mono hbw.out.size))
  clear hb6
  go_wp2_with fail
  go_ret
  exact ⟨rfl, hbw6.out⟩
theorem isPositive_q (x : ByteArray) (w : World) (htab : Tab w) : Calls Tryz.prog 86 #[.string x] w fun e w' => e = .returned (.bool (posT x.data.toList)) ∧ Below w.heap.size w w' := by
  have hx := qread_is x w htab
  unfold posT
  cases hnx : num x.data.toList with
  | none => rw [hnx] at hx; exact pos_bad x w (hiD hx)
  | some r =>
    rw [hnx] at hx
    have e : decide ((0 : Int) < sgnR r) = decide (0 < r) := by
      rcases sgnR_cases r with ⟨h1, h2⟩ | ⟨h1, h2⟩ | ⟨h1, h2⟩
      · rw [h2, decide_eq_false (by omega), decide_eq_false (by grind)]
      · rw [h2, decide_eq_false (by omega), decide_eq_false (by grind)]
      · rw [h2, decide_eq_true (by omega), decide_eq_true h1]
    simp only
    rw [← e]
    exact pos_ok x r w (hiD hx)
end Go.Proofs.YtpnofkefcoaojaaGreatDoor
namespace Go.Proofs.YtpnofkefcoaojaaGreatDoor
open Go.RowKit Go.Lib Big
end Go.Proofs.YtpnofkefcoaojaaGreatDoor
set_option maxHeartbeats 3200000
set_option maxRecDepth 100000
namespace Go.Proofs.YtpnofkefcoaojaaGreatDoor
open Go.RowKit Go.Lib Big
theorem one_is (w : World) : Calls Tryz.prog 87 #[.int .i64 1] w (IsPost 1 1 w) := by
  refine (int_any 1 w (by omega)).mono ?_
  rintro e w' ⟨z, rfl, hz, hb⟩
  have h1 : 1 < B64 ^ 1 := by rw [Nat.pow_one, B64_eq]; omega
  refine ⟨z, rfl, ⟨_, _, _, hz, ?_, by omega, h1, h1⟩, hb⟩
  rw [ratv_drop]; unfold ratv; simp; grind
end Go.Proofs.YtpnofkefcoaojaaGreatDoor
namespace Go.Proofs.YtpnofkefcoaojaaGreatDoor
open Go.RowKit Go.Lib Big
end Go.Proofs.YtpnofkefcoaojaaGreatDoor
namespace Go.Proofs.YtpnofkefcoaojaaGreatDoor
open Go.RowKit Go.Lib Big
end Go.Proofs.YtpnofkefcoaojaaGreatDoor
namespace Go.Proofs.YtpnofkefcoaojaaGreatDoor
open Go.RowKit Go.Lib Big
end Go.Proofs.YtpnofkefcoaojaaGreatDoor
namespace Go.Proofs.YtpnofkefcoaojaaGreatDoor
open Go.RowKit Go.Lib Big
section
variable {B : Nat} {w0 W W' : World}
end
end Go.Proofs.YtpnofkefcoaojaaGreatDoor
set_option maxHeartbeats 3200000
set_option maxRecDepth 100000
namespace Go.Proofs.YtpnofkefcoaojaaGreatDoor
open Go.RowKit Big
open Go.Lib
def floQ (q : Rat) : Rat := ratv (decide (q.num < 0)) (floorN (decide (q.num < 0)) q.num.natAbs q.den) 1
end Go.Proofs.YtpnofkefcoaojaaGreatDoor
namespace Go.Proofs.YtpnofkefcoaojaaGreatDoor
open Go.RowKit Go.Lib Big
end Go.Proofs.YtpnofkefcoaojaaGreatDoor
namespace Go.Proofs.YtpnofkefcoaojaaGreatDoor
open Go.RowKit Big
open Go.Lib
def halfQ : Rat := ((1 : Int) : Rat) / ((2 : Int) : Rat)
def rndQ (a b : Rat) : Rat := floQ (a / b + halfQ) * b
end Go.Proofs.YtpnofkefcoaojaaGreatDoor
set_option maxHeartbeats 3200000
set_option maxRecDepth 100000
namespace Go.Proofs.YtpnofkefcoaojaaGreatDoor
open Go.RowKit Big
open Go.Lib
theorem sgn_same (q : Rat) : sgnQ q = sgnR q := by
  unfold sgnQ sgnR
  have h1 : q.num < 0 ↔ q < 0 := by rw [← Rat.not_le, ← Rat.num_nonneg]; omega
  have h2 : q.num = 0 ↔ q = 0 := Rat.num_eq_zero
  simp only [h1, h2]
end Go.Proofs.YtpnofkefcoaojaaGreatDoor
