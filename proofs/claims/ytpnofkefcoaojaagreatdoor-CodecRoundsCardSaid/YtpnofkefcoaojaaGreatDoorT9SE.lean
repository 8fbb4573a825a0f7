/- The document's rational numbers in memory, and their boxes. -/
import Derived.Test.YtpnofkefcoaojaaGreatDoorYD
import Derived.Deep.RegionHeld3
import Derived.Deep.RegionWith
set_option maxHeartbeats 3200000
set_option maxRecDepth 100000
namespace Go.Proofs.YtpnofkefcoaojaaGreatDoor
open Go.RowKit Big
section
variable {B : Nat} {s : Bool} {u1 v1 : Value} {t : Bool} {u2 v2 : Value} {w0 W W' : World}
end
section
variable {W : World}
end
section
variable {B : Nat} {w0 W W' : World}
end
end Go.Proofs.YtpnofkefcoaojaaGreatDoor
namespace Go.Proofs.YtpnofkefcoaojaaGreatDoor
open Go.RowKit Big
theorem intq_any (z : Int) (w : World) (h1 : -9223372036854775808 ≤ z) (h2 : z ≤ 9223372036854775807) : Calls Tryz.prog 29 #[.int .i64 z] w (QPost (z : Rat) w) := by
  have hres := hiD (Resa.start w)
  have hq := hiD (ratv_int z)
  have hno : ∀ W, Hid (Calls Tryz.prog 66 #[.int .u64 ((z.natAbs : Nat) : Int)] W (Post9 z.natAbs W)) := fun W => hiD (natOf_any _ W (by omega))
  have hone : ∀ W, Hid (Calls Tryz.prog 67 #[] W (Post9 1 W)) := fun W => hiD (one_any W)
  have hmk : ∀ W u v, Nat9 W u z.natAbs → Nat9 W v 1 → Hid (Calls Tryz.prog 65 #[.bool (decide (z < 0)), u, v] W (QPost (z : Rat) W)) := fun W u v hu hv => hiD (by
    have h := make_any (decide (z < 0)) u v z.natAbs 1 3 W (by omega) (by rw [B9_eq]; omega) (by rw [B9_eq]; omega) hu hv
    rw [hq.out] at h; exact h)
  by_cases hz : z < 0
  · obtain ⟨m, hm⟩ : ∃ m : Nat, z = -(m : Int) - 1 := ⟨(-z - 1).toNat, by omega⟩
    have hab : z.natAbs = m + 1 := by omega
    have hd : decide (z < 0) = true := by simpa using hz
    rw [hab] at hno
    rw [hd] at hmk
    rw [hab] at hmk
    have hm2 : (m : Int) ≤ 9223372036854775807 := by omega
    have hmz : -(z + 1) = (m : Int) := by omega
    have hm3 : ((m + 1 : Nat) : Int) = (m : Int) + 1 := by omega
    rw [hm3] at hno
    clear hq
    go_enter Tryz.func29, Tryz.ntmps29
    go_wp2_with fail
    refine (hno _).out.mono ?_
    rintro e w1 ⟨v1, rfl, hv1, hb1, -⟩
    obtain ⟨p1, n1, c1, rfl⟩ := hv1.slice
    have hr1 := hiD (hres.out.next hb1)
    have Hv1 := hiD hv1
    clear hv1 hb1
    go_wp2_with fail
    refine (hone _).out.mono ?_
    rintro e w2 ⟨v2, rfl, hv2, hb2, -⟩
    obtain ⟨p2, n2, c2, rfl⟩ := hv2.slice
    have hr2 := hiD (hr1.out.next hb2)
    have hm2' := hmk w2 _ _ (Hv1.out.below hb2) hv2
    clear hv2 hb2
    go_wp2_with fail
    refine hm2'.out.mono ?_
    rintro e w3 ⟨x3, rfl, hx3, hb3⟩
    obtain ⟨p3, n3, c3, p4, n4, c4, rfl, hu3, hv3⟩ := hx3.slices
    have hr3 := hiD (hr2.out.next hb3)
    obtain ⟨z0, z1, z2, l0, l1, l2, f0, f1, f2⟩ := hr3.out.slots
    obtain ⟨sb, hsb⟩ : ∃ sb, Hid (sb = decide ((z : Rat).num < 0)) := ⟨_, hiD rfl⟩
    rw [← hsb.out]
    have q1 := hiD (hr3.out.nat3 (Nat.le_refl _) hu3 sb p3 p4 n3 c3 n4 c4)
    have q2 := hiD (hv3.imp (fun h => hr3.out.nat3 (Nat.le_refl _) h sb p3 p4 n3 c3 n4 c4) fun h => And.intro (hr3.out.nat3 (Nat.le_refl _) h.1 sb p3 p4 n3 c3 n4 c4) h.2)
    have q3 := hiD (hr3.out.put3 (Nat.le_refl _) sb p3 p4 n3 c3 n4 c4).below
    clear hu3 hv3 hb3 hm2' hx3
    go_wp2_with fail
    refine bodyPost_ret (v := .agg #[.bool sb, .slice p3 n3 c3, .slice p4 n4 c4]) (by simp [results, Tryz.results29, go_sem, l0, l1, l2]) rfl ?_
    exact ⟨_, rfl, ⟨_, _, by rw [hsb.out], q1.out, q2.out⟩, q3.out⟩
  · obtain ⟨m, rfl⟩ : ∃ m : Nat, z = (m : Int) := ⟨z.toNat, by omega⟩
    have hd : decide ((m : Int) < 0) = false := by simp
    rw [hd] at hmk
    have hab : ((m : Int)).natAbs = m := by omega
    rw [hab] at hno hmk
    clear hq
    go_enter Tryz.func29, Tryz.ntmps29
    go_wp2_with fail
    refine (hno _).out.mono ?_
    rintro e w1 ⟨v1, rfl, hv1, hb1, -⟩
    obtain ⟨p1, n1, c1, rfl⟩ := hv1.slice
    have hr1 := hiD (hres.out.next hb1)
    have Hv1 := hiD hv1
    clear hv1 hb1
    go_wp2_with fail
    refine (hone _).out.mono ?_
    rintro e w2 ⟨v2, rfl, hv2, hb2, -⟩
    obtain ⟨p2, n2, c2, rfl⟩ := hv2.slice
    have hr2 := hiD (hr1.out.next hb2)
    have hm2' := hmk w2 _ _ (Hv1.out.below hb2) hv2
    clear hv2 hb2
    go_wp2_with fail
    refine hm2'.out.mono ?_
    rintro e w3 ⟨x3, rfl, hx3, hb3⟩
    obtain ⟨p3, n3, c3, p4, n4, c4, rfl, hu3, hv3⟩ := hx3.slices
    have hr3 := hiD (hr2.out.next hb3)
    obtain ⟨z0, z1, z2, l0, l1, l2, f0, f1, f2⟩ := hr3.out.slots
    obtain ⟨sb, hsb⟩ : ∃ sb, Hid (sb = decide (((m : Int) : Rat).num < 0)) := ⟨_, hiD rfl⟩
    rw [← hsb.out]
    have q1 := hiD (hr3.out.nat3 (Nat.le_refl _) hu3 sb p3 p4 n3 c3 n4 c4)
    have q2 := hiD (hv3.imp (fun h => hr3.out.nat3 (Nat.le_refl _) h sb p3 p4 n3 c3 n4 c4) fun h => And.intro (hr3.out.nat3 (Nat.le_refl _) h.1 sb p3 p4 n3 c3 n4 c4) h.2)
    have q3 := hiD (hr3.out.put3 (Nat.le_refl _) sb p3 p4 n3 c3 n4 c4).below
    clear hu3 hv3 hb3 hm2' hx3
    go_wp2_with fail
    refine bodyPost_ret (v := .agg #[.bool sb, .slice p3 n3 c3, .slice p4 n4 c4]) (by simp [results, Tryz.results29, go_sem, l0, l1, l2]) rfl ?_
    exact ⟨_, rfl, ⟨_, _, by rw [hsb.out], q1.out, q2.out⟩, q3.out⟩
end Go.Proofs.YtpnofkefcoaojaaGreatDoor
namespace Go.Proofs.YtpnofkefcoaojaaGreatDoor
open Go.RowKit Big
theorem prod_parts (a b : Rat) : ratv (decide (a.num < 0) != decide (b.num < 0)) (a.num.natAbs * b.num.natAbs) (a.den * b.den) = a * b := by
  rw [ratv_mul a.den_pos b.den_pos, ratv_self, ratv_self]
theorem prod_any (x y : Value) (a b : Rat) (K L : Nat) (w : World) (hK : K + L ≤ 900000) (hab : QLt K a) (hbb : QLt L b) (hx : QAt w x a) (hy : QAt w y b) : Calls Tryz.prog 142 #[x, y] w (QPost (a * b) w) := by
  have hdx0 : Hid (∀ W, Below w.heap.size w W → Calls Tryz.prog 71 #[x] W (Some9 a.den W)) := hiD fun W hW => den_any x a W (hx.below hW)
  have hdy0 : Hid (∀ W, Below w.heap.size w W → Calls Tryz.prog 71 #[y] W (Some9 b.den W)) := hiD fun W hW => den_any y b W (hy.below hW)
  obtain ⟨u1, v1, rfl, hu1, hv1⟩ := hx
  obtain ⟨u2, v2, rfl, hu2, hv2⟩ := hy
  obtain ⟨s, hs⟩ : ∃ s, Hid (s = decide (a.num < 0)) := ⟨_, hiD rfl⟩
  obtain ⟨t, ht⟩ : ∃ t, Hid (t = decide (b.num < 0)) := ⟨_, hiD rfl⟩
  rw [← hs.out] at hdx0 ⊢
  rw [← ht.out] at hdy0 ⊢
  have hdx := hdx0
  have hdy := hdy0
  clear hdx0 hdy0
  obtain ⟨sb, hsb⟩ : ∃ sb, Hid (sb = decide ((a * b).num < 0)) := ⟨_, hiD rfl⟩
  have hm1 : Hid (∀ W p q, Nat9 W p a.num.natAbs → Nat9 W q b.num.natAbs → Calls Tryz.prog 70 #[p, q] W (Post9 (a.num.natAbs * b.num.natAbs) W)) := hiD fun W p q h1 h2 => natMul_nat _ _ _ _ K L W (by unfold most; omega) (by unfold most; omega) hab.1 hbb.1 h1 h2
  have hm2 : Hid (∀ W p q, Nat9 W p a.den → Nat9 W q b.den → Calls Tryz.prog 70 #[p, q] W (Post9 (a.den * b.den) W)) := hiD fun W p q h1 h2 => natMul_nat _ _ _ _ K L W (by unfold most; omega) (by unfold most; omega) hab.2 hbb.2 h1 h2
  have hmk : Hid (∀ W f p q, f = (s != t) → Nat9 W p (a.num.natAbs * b.num.natAbs) → Nat9 W q (a.den * b.den) → Calls Tryz.prog 65 #[.bool f, p, q] W (QPostB (a * b) sb W)) := hiD fun W f p q hf h1 h2 => by
    have h := make_any f p q _ _ (K + L) W hK (pow9_mul hab.1 hbb.1) (pow9_mul hab.2 hbb.2) h1 h2
    have he : ratv f (a.num.natAbs * b.num.natAbs) (a.den * b.den) = a * b := by rw [hf, hs.out, ht.out]; exact prod_parts a b
    rw [he] at h
    exact h.mono fun e w' h => h.b hsb.out
  have htwo := Twa.start w s u1 v1 t u2 v2
  have Htwo := hiD htwo
  obtain ⟨-, c0, c1, c2, c3, c4, c5⟩ := htwo.all
  clear htwo hv1 hv2 hab hbb
  go_enter Tryz.func142, Tryz.ntmps142
  go_wp2_with fail
  go_region_held3 (fun w' => Twa w.heap.size s u1 v1 t u2 v2 w w' ∧ w'.cell? ⟨w.heap.size, 0, none⟩ = some (.bool s) ∧ w'.cell? ⟨w.heap.size, 1, none⟩ = some u1 ∧ w'.cell? ⟨w.heap.size, 2, none⟩ = some v1 ∧ w'.cell? ⟨w.heap.size + 1, 0, none⟩ = some (.bool t) ∧ w'.cell? ⟨w.heap.size + 1, 1, none⟩ = some u2 ∧ w'.cell? ⟨w.heap.size + 1, 2, none⟩ = some v2)
    (first | exact Twa.all (Twa.drew Htwo.out) | exact Twa.all Htwo.out | (go_split_ands; exact Twa.all (Twa.next (by assumption) hb1)) | (go_split_ands; exact Twa.all (Twa.next (by assumption) hb2)) | (go_split_ands; exact Twa.all (Twa.next (by assumption) hb3)) | (go_split_ands; exact Twa.all (Twa.next (by assumption) hb4)) | (go_split_ands; exact Twa.all (Twa.next (by assumption) hb5)) | (go_split_ands; exact Twa.all (Twa.put3 (by assumption) (Nat.le_refl _) _ _ _ _ _ _ _)) | go_keep)
    (first | (go_at_call_of 70 (u1); go_split_ands; refine (hm1.out _ _ _ (hu1.below (Twa.below (by assumption))) (hu2.below (Twa.below (by assumption)))).mono ?_; rintro e w1 ⟨vt, rfl, hvt, hb1, -⟩; obtain ⟨pt, nt, ct, rfl⟩ := hvt.slice) | (go_at_call_of 71 (Value.agg #[Value.bool s, u1, v1]); go_split_ands; refine (hdx.out _ (Twa.below (by assumption))).mono ?_; rintro e w2 ⟨px, nx, cx, rfl, hvx, hb2⟩) | (go_at_call_of 71 (Value.agg #[Value.bool t, u2, v2]); go_split_ands; refine (hdy.out _ (Twa.below (by assumption))).mono ?_; rintro e w3 ⟨py, ny, cy, rfl, hvy, hb3⟩) | (go_at_call_of 70 (Value.slice px nx cx); go_split_ands; refine (hm2.out _ _ _ (hvx.below hb3) hvy).mono ?_; rintro e w4 ⟨vb, rfl, hvb, hb4, -⟩; obtain ⟨pb, nb, cb, rfl⟩ := hvb.slice) | (go_at_call 65; go_split_ands; refine (hmk.out _ _ _ _ rfl (((hvt.below hb2).below hb3).below hb4) hvb).mono ?_; rintro e w5 ⟨pr, nr, cr, pq, nq, cq, rfl, hr1, hr2, hb5⟩; have htw := Twa.next (by assumption) hb5; obtain ⟨z0, z1, z2, k0, k1, k2, f0, f1, f2⟩ := Twa.slots htw))
  go_wp2_with fail
  have hfin := hiD (htw.fin (Nat.le_refl _) hsb.out hr1 hr2)
  refine bodyPost_ret (v := .agg #[.bool sb, .slice pr nr cr, .slice pq nq cq]) (by simp [results, Tryz.results142, go_sem, k0, k1, k2]) rfl ?_
  exact hfin.out
end Go.Proofs.YtpnofkefcoaojaaGreatDoor
set_option maxHeartbeats 3200000
set_option maxRecDepth 100000
namespace Go.Proofs.YtpnofkefcoaojaaGreatDoor
open Go.RowKit Big
open Go.Lib
theorem QLt.mul {K L : Nat} {a b : Rat} (ha : QLt K a) (hb : QLt L b) : QLt (K + L) (a * b) :=
  lt_of_ratv (prod_parts a b) (pow9_mul ha.1 hb.1) (pow9_mul ha.2 hb.2) (Nat.mul_pos a.den_pos b.den_pos)
end Go.Proofs.YtpnofkefcoaojaaGreatDoor
set_option maxHeartbeats 3200000
set_option maxRecDepth 100000
namespace Go.Proofs.YtpnofkefcoaojaaGreatDoor
open Go.RowKit Big
open Go.Lib
theorem frac_any (a b : Int) (w : World) (ha : -1000000000 ≤ a ∧ a ≤ 1000000000) (hb : -1000000000 ≤ b ∧ b ≤ 1000000000) : Calls Tryz.prog 144 #[.int .i64 a, .int .i64 b] w (QPost ((a : Rat) / (b : Rat)) w) := by
  have hl : ∀ z : Int, -1000000000 ≤ z ∧ z ≤ 1000000000 → QLt 2 (z : Rat) := fun z h => ⟨by rw [Rat.num_intCast, B9_eq]; omega, by rw [Rat.den_intCast, B9_eq]; omega⟩
  have h1 := hiD (fun W => intq_any a W (by omega) (by omega))
  have h2 := hiD (fun W => intq_any b W (by omega) (by omega))
  obtain ⟨sb, hsb⟩ : ∃ sb, Hid (sb = decide ((((a : Rat) / (b : Rat))).num < 0)) := ⟨_, hiD rfl⟩
  have h3 := hiD (fun W (x y : Value) (hx : QAt W x (a : Rat)) (hy : QAt W y (b : Rat)) => (quot_any x y (a : Rat) (b : Rat) 2 2 W (by omega) (hl a ha) (hl b hb) hx hy).mono fun e w' h => h.b hsb.out)
  have hres := hiD (Resa.start w)
  clear hl
  go_enter Tryz.func144, Tryz.ntmps144
  go_wp2_with fail
  refine (h1.out _).mono ?_
  rintro e w1 ⟨x1, rfl, hx1, hb1⟩
  obtain ⟨p, n, c, p2, n2, c2, rfl, hu, hv⟩ := hx1.slices
  have hr1 := hiD (hres.out.next hb1)
  have Hx1 := hiD hx1
  obtain ⟨s1, hs1⟩ : ∃ s1, Hid (s1 = decide ((a : Rat).num < 0)) := ⟨_, hiD rfl⟩
  rw [← hs1.out] at Hx1 ⊢
  clear hx1 hu hv hb1
  go_wp2_with fail
  refine (h2.out _).mono ?_
  rintro e w2 ⟨x2, rfl, hx2, hb2⟩
  have h4 := hiD (h3.out w2 _ _ (Hx1.out.below hb2) hx2)
  obtain ⟨q, m, d, q2, m2, d2, rfl, hu, hv⟩ := hx2.slices
  have hr2 := hiD (hr1.out.next hb2)
  obtain ⟨s2, hs2⟩ : ∃ s2, Hid (s2 = decide ((b : Rat).num < 0)) := ⟨_, hiD rfl⟩
  rw [← hs2.out] at h4 ⊢
  clear hx2 hu hv hb2
  go_wp2_with fail
  refine h4.out.mono ?_
  rintro e w3 ⟨pr, nr, cr, pq, nq, cq, rfl, hr1', hr2', hb3⟩
  have hrz := hiD (hr2.out.next hb3)
  have hfin := hiD (hrz.out.fin (Nat.le_refl _) hsb.out hr1' hr2')
  obtain ⟨z0, z1, z2, l0, l1, l2, f0, f1, f2⟩ := hrz.out.slots
  clear hr1' hr2' hb3
  go_wp2_with fail
  refine bodyPost_ret (v := .agg #[.bool sb, .slice pr nr cr, .slice pq nq cq]) ?h1 rfl ?h2
  case h1 => simp [results, Tryz.results144, go_sem, l0, l1, l2]
  exact hfin.out
end Go.Proofs.YtpnofkefcoaojaaGreatDoor
