/- The document's Make, Sgn, Opp, IntQ, Whole. -/
import Derived.Test.YtfjnipkpfbkegaaGreatDoorRf
import Derived.Test.YtfjnipkpfbkegaaGreatDoorPart19
import Derived.Test.YtfjnipkpfbkegaaGreatDoorXTB
import Derived.Test.YtfjnipkpfbkegaaGreatDoorSB
set_option maxHeartbeats 3200000
set_option maxRecDepth 100000
namespace Go.Proofs.YtfjnipkpfbkegaaGreatDoor
open Go.RowKit Big
theorem ratv_int (n : Int) : ratv (decide (n < 0)) n.natAbs 1 = (n : Rat) := by
  have h := ratv_self (n : Rat)
  rwa [Rat.num_intCast, Rat.den_intCast] at h
theorem intq_any (z : Int) (w : World) (h1 : -9223372036854775808 ≤ z) (h2 : z ≤ 9223372036854775807) : Calls Tryz.prog 37 #[.int .i64 z] w (QPost (z : Rat) w) := by
  have hres := hiD (Resa.start w)
  have hq := hiD (ratv_int z)
  have hno : ∀ W, Hid (Calls Tryz.prog 70 #[.int .u64 ((z.natAbs : Nat) : Int)] W (Post9 z.natAbs W)) := fun W => hiD (natOf_any _ W (by omega))
  have hone : ∀ W, Hid (Calls Tryz.prog 71 #[] W (Post9 1 W)) := fun W => hiD (one_any W)
  have hmk : ∀ W u v, Nat9 W u z.natAbs → Nat9 W v 1 → Hid (Calls Tryz.prog 69 #[.bool (decide (z < 0)), u, v] W (QPost (z : Rat) W)) := fun W u v hu hv => hiD (by
    have h := make_any (decide (z < 0)) u v z.natAbs 1 3 W (by omega) (by rw [B9_eq]; omega) (by rw [B9_eq]; omega) hu hv
    rw [hq.out] at h; exact h)
  by_cases hz : z < 0
  · obtain ⟨m, hm⟩ : ∃ m : Nat, z = -(m : Int) - 1 := ⟨(-z - 1).toNat, by omega⟩
    have hab : z.natAbs = m + 1 := by omega
    have hd : decide (z < 0) = true := by simpa using hz
    rw [hab] at hno
    rw [hd] at hmk
    rw [hab] at hmk
    have hm2 : (m : Int) ≤ 9223372036854775807 := by omega
    have hmz : -(z + 1) = (m : Int) := by omega
    have hm3 : ((m + 1 : Nat) : Int) = (m : Int) + 1 := by omega
    rw [hm3] at hno
    clear hq
    go_enter Tryz.func37, Tryz.ntmps37
    go_wp2_with fail
    refine (hno _).out.mono ?_
    rintro e w1 ⟨v1, rfl, hv1, hb1, -⟩
    obtain ⟨p1, n1, c1, rfl⟩ := hv1.slice
    have hr1 := hiD (hres.out.next hb1)
    have Hv1 := hiD hv1
    clear hv1 hb1
    go_wp2_with fail
    refine (hone _).out.mono ?_
    rintro e w2 ⟨v2, rfl, hv2, hb2, -⟩
    obtain ⟨p2, n2, c2, rfl⟩ := hv2.slice
    have hr2 := hiD (hr1.out.next hb2)
    have hm2' := hmk w2 _ _ (Hv1.out.below hb2) hv2
    clear hv2 hb2
    go_wp2_with fail
    refine hm2'.out.mono ?_
    rintro e w3 ⟨x3, rfl, hx3, hb3⟩
    obtain ⟨p3, n3, c3, p4, n4, c4, rfl, hu3, hv3⟩ := hx3.slices
    have hr3 := hiD (hr2.out.next hb3)
    obtain ⟨z0, z1, z2, l0, l1, l2, f0, f1, f2⟩ := hr3.out.slots
    obtain ⟨sb, hsb⟩ : ∃ sb, Hid (sb = decide ((z : Rat).num < 0)) := ⟨_, hiD rfl⟩
    rw [← hsb.out]
    have q1 := hiD (hr3.out.nat3 (Nat.le_refl _) hu3 sb p3 p4 n3 c3 n4 c4)
    have q2 := hiD (hv3.imp (fun h => hr3.out.nat3 (Nat.le_refl _) h sb p3 p4 n3 c3 n4 c4) fun h => And.intro (hr3.out.nat3 (Nat.le_refl _) h.1 sb p3 p4 n3 c3 n4 c4) h.2)
    have q3 := hiD (hr3.out.put3 (Nat.le_refl _) sb p3 p4 n3 c3 n4 c4).below
    clear hu3 hv3 hb3 hm2' hx3
    go_wp2_with fail
    refine bodyPost_ret (v := .agg #[.bool sb, .slice p3 n3 c3, .slice p4 n4 c4]) (by simp [results, Tryz.results37, go_sem, l0, l1, l2]) rfl ?_
    exact ⟨_, rfl, ⟨_, _, by rw [hsb.out], q1.out, q2.out⟩, q3.out⟩
  · obtain ⟨m, rfl⟩ : ∃ m : Nat, z = (m : Int) := ⟨z.toNat, by omega⟩
    have hd : decide ((m : Int) < 0) = false := by simp
    rw [hd] at hmk
    have hab : ((m : Int)).natAbs = m := by omega
    rw [hab] at hno hmk
    clear hq
    go_enter Tryz.func37, Tryz.ntmps37
    go_wp2_with fail
    refine (hno _).out.mono ?_
    rintro e w1 ⟨v1, rfl, hv1, hb1, -⟩
    obtain ⟨p1, n1, c1, rfl⟩ := hv1.slice
    have hr1 := hiD (hres.out.next hb1)
    have Hv1 := hiD hv1
    clear hv1 hb1
    go_wp2_with fail
    refine (hone _).out.mono ?_
    rintro e w2 ⟨v2, rfl, hv2, hb2, -⟩
    obtain ⟨p2, n2, c2, rfl⟩ := hv2.slice
    have hr2 := hiD (hr1.out.next hb2)
    have hm2' := hmk w2 _ _ (Hv1.out.below hb2) hv2
    clear hv2 hb2
    go_wp2_with fail
    refine hm2'.out.mono ?_
    rintro e w3 ⟨x3, rfl, hx3, hb3⟩
    obtain ⟨p3, n3, c3, p4, n4, c4, rfl, hu3, hv3⟩ := hx3.slices
    have hr3 := hiD (hr2.out.next hb3)
    obtain ⟨z0, z1, z2, l0, l1, l2, f0, f1, f2⟩ := hr3.out.slots
    obtain ⟨sb, hsb⟩ : ∃ sb, Hid (sb = decide (((m : Int) : Rat).num < 0)) := ⟨_, hiD rfl⟩
    rw [← hsb.out]
    have q1 := hiD (hr3.out.nat3 (Nat.le_refl _) hu3 sb p3 p4 n3 c3 n4 c4)
    have q2 := hiD (hv3.imp (fun h => hr3.out.nat3 (Nat.le_refl _) h sb p3 p4 n3 c3 n4 c4) fun h => And.intro (hr3.out.nat3 (Nat.le_refl _) h.1 sb p3 p4 n3 c3 n4 c4) h.2)
    have q3 := hiD (hr3.out.put3 (Nat.le_refl _) sb p3 p4 n3 c3 n4 c4).below
    clear hu3 hv3 hb3 hm2' hx3
    go_wp2_with fail
    refine bodyPost_ret (v := .agg #[.bool sb, .slice p3 n3 c3, .slice p4 n4 c4]) (by simp [results, Tryz.results37, go_sem, l0, l1, l2]) rfl ?_
    exact ⟨_, rfl, ⟨_, _, by rw [hsb.out], q1.out, q2.out⟩, q3.out⟩
end Go.Proofs.YtfjnipkpfbkegaaGreatDoor
set_option maxHeartbeats 3200000
set_option maxRecDepth 100000
namespace Go.Proofs.YtfjnipkpfbkegaaGreatDoor
open Go.RowKit Big
open Go.Lib
theorem nDigits_le40 {u : Nat} (h : u < 18446744073709551616) : nDigits u ≤ 40 := by
  have := nDigits_le20 u h
  omega
theorem txt_int (n : Int) (h0 : -9223372036854775808 ≤ n) (h1 : n ≤ 9223372036854775807) : txt (n : Rat) = itoa n := by
  rw [txt_eq, Rat.num_intCast, Rat.den_intCast, if_pos ⟨nDigits_le40 (by omega), nDigits_le40 (by omega)⟩]
  unfold wrote itoa
  by_cases h : n < 0
  · simp [h]
  · simp [h]; congr 1; omega
theorem rfromInt_any (n : Int) (h0 : Hid (-9223372036854775808 ≤ n ∧ n ≤ 9223372036854775807)) (w : World) : Calls Tryz.prog 27 #[.int .i64 n] w (TxtPost (itoa n) w) := by
  have h1 := hiD (intq_any n w h0.out.1 h0.out.2)
  have hl : QLt 3 (n : Rat) := ⟨by rw [Rat.num_intCast, B9_eq]; have := h0.out; omega, by rw [Rat.den_intCast, B9_eq]; omega⟩
  have h2 : Hid (∀ W x, QAt W x (n : Rat) → Calls Tryz.prog 49 #[x] W fun e w' => e = .returned (.string ⟨(itoa n).toArray⟩) ∧ Below W.heap.size W w') := hiD fun W x hx => by
    rw [← txt_int n h0.out.1 h0.out.2]; exact put_any x _ 3 W (by omega) hl hx
  unfold TxtPost
  generalize (⟨(itoa n).toArray⟩ : ByteArray) = y at h2 ⊢
  clear hl h0
  go_enter Tryz.func27, Tryz.ntmps27
  go_wp2_with fail
  refine h1.out.mono ?_
  rintro e w1 ⟨x, rfl, hx, hb1⟩
  have h3 := h2.out w1 x hx
  obtain ⟨p3, n3, c3, p4, n4, c4, rfl, -, -⟩ := hx.slices
  generalize decide ((n : Rat).num < 0) = sb at h3 ⊢
  have HB := hiD hb1
  have H3 := hiD h3
  clear hb1 hx h3
  go_wp2_with fail
  refine H3.out.mono ?_
  rintro e w2 ⟨rfl, hb2⟩
  have HB2 := hiD (HB.out.trans (hb2.mono HB.out.size))
  clear hb2
  go_wp2_with fail
  go_ret
  exact ⟨rfl, HB2.out⟩
end Go.Proofs.YtfjnipkpfbkegaaGreatDoor
