/-  -/
import Derived.Test.YtpnofkefcoaojaaGreatDoorKA
import Derived.Test.YtpnofkefcoaojaaGreatDoorV06
import Derived.Lib.CutLaws
set_option maxHeartbeats 3200000
set_option maxRecDepth 100000
namespace Go.Proofs.YtpnofkefcoaojaaGreatDoor
open Go.RowKit Big
theorem pos_of_flag {s : Bool} {q : Nat} (h : (s && !(q == 0)) = true) : 0 < q := by
  rw [Bool.and_eq_true] at h
  have := h.2
  simp at this; omega
def floorN (s : Bool) (a b : Nat) : Nat := a / b + (if s && !(a % b == 0) then 1 else 0)
theorem floor_any (x : Value) (s : Bool) (a b K : Nat) (w : World) (hK : K + 2 ≤ 1073741824) (ha : a < B64 ^ K) (hb : b < B64 ^ K) (hb0 : 0 < b) (hx : RatAt w x s a b) : Calls Tryz.prog 90 #[x] w (RatPost s (floorN s a b) 1 w) := by
  obtain ⟨u1, v1, rfl, hu1, hv1, hs1⟩ := hx
  obtain ⟨p1, n1, k1, rfl⟩ := hu1.slice
  obtain ⟨p2, n2, k2, rfl⟩ := hv1.slice
  have hone := One.start w s (.slice p1 n1 k1) (.slice p2 n2 k2)
  obtain ⟨c0, c1, c2⟩ := hone.cells
  have Hone := hiD hone
  have hdiv : Hid (∀ W, Below w.heap.size w W → Calls Tryz.prog 140 #[.slice p1 n1 k1, .slice p2 n2 k2] W (QuoPost a b W)) := hiD fun W h => divided_nat _ _ a b K W (by unfold most; omega) ha hb hb0 (hu1.below h) (hv1.below h)
  have hqB : Hid (a / b < B64 ^ K) := hiD (Nat.lt_of_le_of_lt (Nat.div_le_self _ _) ha)
  have HK := hiD hK
  have hB1 : Hid (1 < B64) := hiD (by rw [B64_eq]; omega)
  clear hone hu1 hv1 hs1 ha hb hb0 hK
  -- the end, from the quotient's value on
  have hend : Hid (∀ (W3 : World) (qv : Value) (q : Nat), One w.heap.size s (.slice p1 n1 k1) (.slice p2 n2 k2) w W3 → NatAt W3 qv q → ∀ T, Calls Tryz.prog 132 #[.bool s, qv, .slice (some ⟨W3.heap.size, 0, none⟩) 1 1] (W3.alloc (.cells #[.int .u64 1] T)) fun e w' =>
      ∃ p n c m, e = .returned (.agg #[.bool (s && !(q == 0)), .slice p n c, .slice (some ⟨m, 0, none⟩) 1 1]) ∧ One w.heap.size s (.slice p1 n1 k1) (.slice p2 n2 k2) w w' ∧ NatAt w' (.slice p n c) q ∧ NatAt w' (.slice (some ⟨m, 0, none⟩) 1 1) 1) := hiD (by
    intro W3 qv q h1 h2 T
    obtain ⟨p, n, c, rfl⟩ := h2.slice
    refine (signed_nat s _ _ q 1 _ (h2.below (bea _ _)) (natAt_box W3 1 T (by omega) hB1.out)).mono ?_
    rintro e w' ⟨rfl, hb⟩
    exact ⟨p, n, c, _, rfl, (h1.next (bea _ _)).next hb, (h2.below (bea _ _)).below hb, (natAt_box W3 1 T (by omega) hB1.out).below hb⟩)
  go_enter Tryz.func90, Tryz.ntmps90
  go_wp2_with fail
  refine (hdiv.out _ Hone.out.below).mono ?_
  rintro e w2 ⟨vq, vr, rfl, hq, hr, hb2⟩
  have htw := Hone.out.next hb2
  obtain ⟨c0, c1, c2⟩ := htw.cells
  obtain ⟨pq, nq, kq, rfl⟩ := hq.slice
  obtain ⟨pr, nr, kr, rfl⟩ := hr.slice
  have hrz := hiD (natAt_zero_iff hr)
  have Htw := hiD htw
  have Hq := hiD hq
  clear htw hq hr
  cases s with
  | false =>
    have hfl : Hid (floorN false a b = a / b) := hiD (by simp [floorN])
    go_wp2_with fail
    refine (hend.out _ _ (a / b) Htw.out Hq.out _).mono ?_
    rintro e w3 ⟨p, n, c, m, rfl, h1, h2, h3⟩
    obtain ⟨z0, z1, z2, l0, l1, l2, f0, f1, f2⟩ := h1.slots
    have q1 := h1.nat3 (Nat.le_refl _) h2 (false && !((a / b) == 0)) p (some ⟨m, 0, none⟩) n c 1 1
    have q2 := h1.nat3 (Nat.le_refl _) h3 (false && !((a / b) == 0)) p (some ⟨m, 0, none⟩) n c 1 1
    have q3 := (h1.put3 (Nat.le_refl _) (false && !((a / b) == 0)) p (some ⟨m, 0, none⟩) n c 1 1).below
    have hfin : Hid (∀ W, W = (((w3.setCell ⟨w.heap.size + 1, 0, none⟩ (.bool (false && !((a / b) == 0)))).setCell ⟨w.heap.size + 1, 1, none⟩ (.slice p n c)).setCell ⟨w.heap.size + 1, 2, none⟩ (.slice (some ⟨m, 0, none⟩) 1 1)) → RatPost false (floorN false a b) 1 w (.returned (.agg #[.bool (false && !((a / b) == 0)), .slice p n c, .slice (some ⟨m, 0, none⟩) 1 1])) W) := hiD (by
      rintro W rfl
      rw [hfl.out]
      exact ⟨_, rfl, ⟨_, _, rfl, q1, q2, pos_of_flag⟩, q3⟩)
    clear q1 q2 q3 h1 h2 h3
    go_wp2_with fail
    refine bodyPost_ret (v := .agg #[.bool (false && !((a / b) == 0)), .slice p n c, .slice (some ⟨m, 0, none⟩) 1 1]) (by simp [results, Tryz.results90, go_sem, l0, l1, l2]) rfl ?_
    exact hfin.out _ rfl
  | true =>
    by_cases h0 : a % b = 0
    · have hfl : Hid (floorN true a b = a / b) := hiD (by simp [floorN, h0])
      have hnz : ((nr : Int) == 0) = true := by rw [beq_iff_eq]; have := hrz.out.2 h0; omega
      clear h0
      go_wp2_with fail
      refine (isZero_any _ _ _ _).mono ?_
      rintro e w5 ⟨rfl, rfl⟩
      rw [hnz]
      go_wp2_with fail
      refine (hend.out _ _ (a / b) Htw.out Hq.out _).mono ?_
      rintro e w3 ⟨p, n, c, m, rfl, h1, h2, h3⟩
      obtain ⟨z0, z1, z2, l0, l1, l2, f0, f1, f2⟩ := h1.slots
      have q1 := h1.nat3 (Nat.le_refl _) h2 (true && !((a / b) == 0)) p (some ⟨m, 0, none⟩) n c 1 1
      have q2 := h1.nat3 (Nat.le_refl _) h3 (true && !((a / b) == 0)) p (some ⟨m, 0, none⟩) n c 1 1
      have q3 := (h1.put3 (Nat.le_refl _) (true && !((a / b) == 0)) p (some ⟨m, 0, none⟩) n c 1 1).below
      have hfin : Hid (∀ W, W = (((w3.setCell ⟨w.heap.size + 1, 0, none⟩ (.bool (true && !((a / b) == 0)))).setCell ⟨w.heap.size + 1, 1, none⟩ (.slice p n c)).setCell ⟨w.heap.size + 1, 2, none⟩ (.slice (some ⟨m, 0, none⟩) 1 1)) → RatPost true (floorN true a b) 1 w (.returned (.agg #[.bool (true && !((a / b) == 0)), .slice p n c, .slice (some ⟨m, 0, none⟩) 1 1])) W) := hiD (by
        rintro W rfl
        rw [hfl.out]
        exact ⟨_, rfl, ⟨_, _, rfl, q1, q2, pos_of_flag⟩, q3⟩)
      clear q1 q2 q3 h1 h2 h3
      go_wp2_with fail
      refine bodyPost_ret (v := .agg #[.bool (true && !((a / b) == 0)), .slice p n c, .slice (some ⟨m, 0, none⟩) 1 1]) (by simp [results, Tryz.results90, go_sem, l0, l1, l2]) rfl ?_
      exact hfin.out _ rfl
    · have hfl : Hid (floorN true a b = a / b + 1) := hiD (by simp [floorN, h0])
      have hnz : ((nr : Int) == 0) = false := by rw [beq_eq_false_iff_ne]; have := hrz.out.1; omega
      clear h0
      go_wp2_with fail
      refine (isZero_any _ _ _ _).mono ?_
      rintro e w5 ⟨rfl, rfl⟩
      rw [hnz]
      go_wp2_with fail
      have hadd : ∀ T, Hid (Calls Tryz.prog 138 #[.slice pq nq kq, .slice (some ⟨w2.heap.size, 0, none⟩) 1 1] (w2.alloc (.cells #[.int .u64 1] T)) (NatPost (a / b + 1) (w2.alloc (.cells #[.int .u64 1] T)))) := fun T => hiD (plus_nat _ _ _ 1 (K + 1) _ (by have := HK.out; unfold most; omega)
        (by have h1 := hqB.out; have h2 : B64 ^ K ≤ B64 ^ (K + 1) := Nat.pow_le_pow_right B64_pos (by omega); omega)
        (by have h1 := hB1.out; have h2 : B64 ^ 1 ≤ B64 ^ (K + 1) := Nat.pow_le_pow_right B64_pos (by omega); rw [Nat.pow_one] at h2; omega)
        (Hq.out.below (bea _ _)) (natAt_box w2 1 T (by omega) hB1.out))
      refine (hadd _).out.mono ?_
      rintro e w6 ⟨v6, rfl, hv6, hb6⟩
      have htw6 := (Htw.out.next (bea _ _)).next hb6
      obtain ⟨c0, c1, c2⟩ := htw6.cells
      have Htw6 := hiD htw6
      have Hv6 := hiD hv6
      clear htw6 hv6 hb6 hadd
      go_wp2_with fail
      refine (hend.out _ _ (a / b + 1) Htw6.out Hv6.out _).mono ?_
      rintro e w3 ⟨p, n, c, m, rfl, h1, h2, h3⟩
      obtain ⟨z0, z1, z2, l0, l1, l2, f0, f1, f2⟩ := h1.slots
      have q1 := h1.nat3 (Nat.le_refl _) h2 (true && !((a / b + 1) == 0)) p (some ⟨m, 0, none⟩) n c 1 1
      have q2 := h1.nat3 (Nat.le_refl _) h3 (true && !((a / b + 1) == 0)) p (some ⟨m, 0, none⟩) n c 1 1
      have q3 := (h1.put3 (Nat.le_refl _) (true && !((a / b + 1) == 0)) p (some ⟨m, 0, none⟩) n c 1 1).below
      have hfin : Hid (∀ W, W = (((w3.setCell ⟨w.heap.size + 1, 0, none⟩ (.bool (true && !((a / b + 1) == 0)))).setCell ⟨w.heap.size + 1, 1, none⟩ (.slice p n c)).setCell ⟨w.heap.size + 1, 2, none⟩ (.slice (some ⟨m, 0, none⟩) 1 1)) → RatPost true (floorN true a b) 1 w (.returned (.agg #[.bool (true && !((a / b + 1) == 0)), .slice p n c, .slice (some ⟨m, 0, none⟩) 1 1])) W) := hiD (by
        rintro W rfl
        rw [hfl.out]
        exact ⟨_, rfl, ⟨_, _, rfl, q1, q2, pos_of_flag⟩, q3⟩)
      clear q1 q2 q3 h1 h2 h3
      go_wp2_with fail
      refine bodyPost_ret (v := .agg #[.bool (true && !((a / b + 1) == 0)), .slice p n c, .slice (some ⟨m, 0, none⟩) 1 1]) (by simp [results, Tryz.results90, go_sem, l0, l1, l2]) rfl ?_
      exact hfin.out _ rfl
end Go.Proofs.YtpnofkefcoaojaaGreatDoor
namespace Go.Proofs.YtpnofkefcoaojaaGreatDoor
open Go.RowKit Big
end Go.Proofs.YtpnofkefcoaojaaGreatDoor
namespace Go.Proofs.YtpnofkefcoaojaaGreatDoor
open Go.RowKit Big
end Go.Proofs.YtpnofkefcoaojaaGreatDoor
namespace Go.Proofs.YtpnofkefcoaojaaGreatDoor
open Go.RowKit Big
end Go.Proofs.YtpnofkefcoaojaaGreatDoor
namespace Go.Proofs.YtpnofkefcoaojaaGreatDoor
open Go.RowKit Big
end Go.Proofs.YtpnofkefcoaojaaGreatDoor
namespace Go.Proofs.YtpnofkefcoaojaaGreatDoor
open Go.RowKit Big
end Go.Proofs.YtpnofkefcoaojaaGreatDoor
namespace Go.Proofs.YtpnofkefcoaojaaGreatDoor
open Go.RowKit Big
end Go.Proofs.YtpnofkefcoaojaaGreatDoor
namespace Go.Proofs.YtpnofkefcoaojaaGreatDoor
open Go.RowKit Big
end Go.Proofs.YtpnofkefcoaojaaGreatDoor
set_option maxHeartbeats 1600000
set_option maxRecDepth 100000
namespace Go.Proofs.YtpnofkefcoaojaaGreatDoor
open Go.RowKit Go.Lib Big
end Go.Proofs.YtpnofkefcoaojaaGreatDoor
namespace Go.Proofs.YtpnofkefcoaojaaGreatDoor
open Go.RowKit Go.Lib Big
end Go.Proofs.YtpnofkefcoaojaaGreatDoor
namespace Go.Proofs.YtpnofkefcoaojaaGreatDoor
open Go.RowKit Go.Lib Big
end Go.Proofs.YtpnofkefcoaojaaGreatDoor
namespace Go.Proofs.YtpnofkefcoaojaaGreatDoor
open Go.RowKit Go.Lib Big
end Go.Proofs.YtpnofkefcoaojaaGreatDoor
namespace Go.Proofs.YtpnofkefcoaojaaGreatDoor
open Go.RowKit Go.Lib Big
end Go.Proofs.YtpnofkefcoaojaaGreatDoor
namespace Go.Proofs.YtpnofkefcoaojaaGreatDoor
open Go.RowKit Go.Lib Big
end Go.Proofs.YtpnofkefcoaojaaGreatDoor
namespace Go.Proofs.YtpnofkefcoaojaaGreatDoor
open Go.RowKit Go.Lib Big
def ReadC (o : Option (Bool × Nat × Nat)) (w : World) (e : Ending) (w' : World) : Prop :=
  Below w.heap.size w w' ∧ ∃ b p n c q m d, e = .returned (.tuple #[.agg #[.bool b, .slice p n c, .slice q m d], .bool o.isSome]) ∧ ∀ s x y, o = some (s, x, y) → RatAt w' (.agg #[.bool b, .slice p n c, .slice q m d]) s x y
theorem qread_c (s : ByteArray) (w : World) (htab : Tab w) : Calls Tryz.prog 130 #[.string s] w (ReadC (readQ s.data.toList) w) := by
  refine (qread_any s w htab).mono fun e w' h => ⟨h.1, ?_⟩
  have h2 := h.2
  cases hq : readQ s.data.toList with
  | none => rw [hq] at h2; exact ⟨_, _, _, _, _, _, _, h2, fun _ _ _ h => by cases h⟩
  | some t =>
    rw [hq] at h2
    obtain ⟨x, rfl, u, v, rfl, hu, hv, hs⟩ := h2
    obtain ⟨p2, n2, k2, rfl⟩ := hu.slice
    obtain ⟨p3, n3, k3, rfl⟩ := hv.slice
    refine ⟨_, _, _, _, _, _, _, rfl, ?_⟩
    rintro _ _ _ h
    cases h
    exact ⟨_, _, rfl, hu, hv, hs⟩
theorem closure_bad1 (x y : ByteArray) (g : Addr) (w : World) (hx : Hid (Calls Tryz.prog 130 #[.string x] w (ReadC none w))) : Calls Tryz.prog 129 #[.string x, .string y, .pointer (some g)] w fun e w' => e = .returned (.string ⟨#[]⟩) ∧ Below w.heap.size w w' := by
  go_enter Tryz.func129, Tryz.ntmps129
  go_wp2_with fail
  refine hx.out.mono ?_
  rintro e w2 ⟨hb2, b, p, n, c, q, m, d, rfl, -⟩
  have hbw := hiD (hb2.trans ((bea w2 (.cells #[.bool b, .slice p n c, .slice q m d] 98)).mono hb2.size))
  clear hb2
  go_wp2_with fail
  go_ret
  exact ⟨rfl, hbw.out⟩
end Go.Proofs.YtpnofkefcoaojaaGreatDoor
namespace Go.Proofs.YtpnofkefcoaojaaGreatDoor
open Go.RowKit Go.Lib Big
end Go.Proofs.YtpnofkefcoaojaaGreatDoor
namespace Go.Proofs.YtpnofkefcoaojaaGreatDoor
open Go.Lib Big
/-! Digits -/
end Go.Proofs.YtpnofkefcoaojaaGreatDoor
namespace Go.Proofs.YtpnofkefcoaojaaGreatDoor
open Go.Lib Big
/-! Compare -/
def sgnR (q : Rat) : Int := if q < 0 then -1 else if q = 0 then 0 else 1
theorem sgnR_cases (q : Rat) : (q < 0 ∧ sgnR q = -1) ∨ (q = 0 ∧ sgnR q = 0) ∨ (0 < q ∧ sgnR q = 1) := by
  unfold sgnR
  by_cases h : q < 0
  · exact .inl ⟨h, by rw [if_pos h]⟩
  · by_cases h2 : q = 0
    · exact .inr (.inl ⟨h2, by rw [if_neg h, if_pos h2]⟩)
    · exact .inr (.inr ⟨by grind, by rw [if_neg h, if_neg h2]⟩)
end Go.Proofs.YtpnofkefcoaojaaGreatDoor
namespace Go.Proofs.YtpnofkefcoaojaaGreatDoor
open Go.Lib Big
end Go.Proofs.YtpnofkefcoaojaaGreatDoor
