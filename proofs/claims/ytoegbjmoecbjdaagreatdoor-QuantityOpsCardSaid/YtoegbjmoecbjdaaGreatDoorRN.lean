/- The document's Minus, Cmp, Whole. -/
import Derived.Test.YtoegbjmoecbjdaaGreatDoorRM
set_option maxHeartbeats 3200000
set_option maxRecDepth 100000
namespace Go.Proofs.YtoegbjmoecbjdaaGreatDoor
open Go.RowKit Big
theorem plus_any (x y : Value) (a b : Rat) (K L : Nat) (w : World) (hK : K + L + 1 ≤ 900000) (hab : QLt K a) (hbb : QLt L b) (hx : QAt w x a) (hy : QAt w y b) : Calls Tryz.prog 80 #[x, y] w (QPost (a + b) w) := by
  by_cases h : decide (a.num < 0) = decide (b.num < 0)
  · exact plus_same x y a b K L w hK hab hbb hx hy h
  · by_cases h2 : b.num.natAbs * a.den ≤ a.num.natAbs * b.den
    · exact plus_ge9 x y a b K L w hK hab hbb hx hy h h2
    · exact plus_lt9 x y a b K L w hK hab hbb hx hy h (by omega)
theorem QLt.neg {K : Nat} {q : Rat} (h : QLt K q) : QLt K (-q) := ⟨by rw [Rat.neg_num, Int.natAbs_neg]; exact h.1, by rw [Rat.neg_den]; exact h.2⟩
theorem QAt.dr {w : World} {v : Value} {x : Rat} (h : QAt w v x) : QAt w.drew v x := h.below (Below.refl _ _).drew
theorem minus_any (x y : Value) (a b : Rat) (K L : Nat) (w : World) (hK : K + L + 1 ≤ 900000) (hab : QLt K a) (hbb : QLt L b) (hx : QAt w x a) (hy : QAt w y b) : Calls Tryz.prog 39 #[x, y] w (QPost (a - b) w) := by
  obtain ⟨sb, hsb⟩ : ∃ sb, Hid (sb = decide ((a - b).num < 0)) := ⟨_, hiD rfl⟩
  obtain ⟨tb, htb⟩ : ∃ tb, Hid (tb = decide ((-b).num < 0)) := ⟨_, hiD rfl⟩
  have hop : Hid (∀ W, Below w.heap.size w W → Calls Tryz.prog 41 #[y] W (QPostB (-b) tb W)) := hiD fun W hW => (opp_any y b W (hy.below hW)).mono fun e w' h => h.b htb.out
  have hpl : Hid (∀ W z, Below w.heap.size w W → QAt W z (-b) → Calls Tryz.prog 80 #[x, z] W (QPostB (a - b) sb W)) := hiD fun W z hW hz => by
    have h := plus_any x z a (-b) K L W hK hab hbb.neg (hx.below hW) hz
    rw [← Rat.sub_eq_add_neg] at h
    exact h.mono fun e w' h => h.b hsb.out
  obtain ⟨u1, v1, rfl, hu1, hv1⟩ := hx
  obtain ⟨u2, v2, rfl, hu2, hv2⟩ := hy
  obtain ⟨s, hs⟩ : ∃ s, Hid (s = decide (a.num < 0)) := ⟨_, hiD rfl⟩
  obtain ⟨t, ht⟩ : ∃ t, Hid (t = decide (b.num < 0)) := ⟨_, hiD rfl⟩
  rw [← hs.out] at hpl ⊢
  rw [← ht.out] at hop ⊢
  have htwo := Twa.start w s u1 v1 t u2 v2
  have Htwo := hiD htwo
  obtain ⟨-, c0, c1, c2, c3, c4, c5⟩ := htwo.all
  clear htwo hv1 hv2 hab hbb hu1 hu2
  go_enter Tryz.func39, Tryz.ntmps39
  go_wp2_with fail
  go_region_held3 (fun w' => Twa w.heap.size s u1 v1 t u2 v2 w w' ∧ w'.cell? ⟨w.heap.size, 0, none⟩ = some (.bool s) ∧ w'.cell? ⟨w.heap.size, 1, none⟩ = some u1 ∧ w'.cell? ⟨w.heap.size, 2, none⟩ = some v1 ∧ w'.cell? ⟨w.heap.size + 1, 0, none⟩ = some (.bool t) ∧ w'.cell? ⟨w.heap.size + 1, 1, none⟩ = some u2 ∧ w'.cell? ⟨w.heap.size + 1, 2, none⟩ = some v2)
    (first | exact Twa.all (Twa.drew Htwo.out) | exact Twa.all Htwo.out | (go_split_ands; exact Twa.all (Twa.next (by assumption) hb1)) | (go_split_ands; exact Twa.all (Twa.next (by assumption) hb2)) | (go_split_ands; exact Twa.all (Twa.put3 (by assumption) (Nat.le_refl _) _ _ _ _ _ _ _)) | go_keep)
    (first | (go_at_call 41; go_split_ands; refine (hop.out _ (Twa.below (by assumption))).mono ?_; rintro e w1 ⟨p1, n1, c1, p2, n2, c2, rfl, ho1, ho2, hb1⟩) | (go_at_call 80; go_split_ands; refine (hpl.out _ _ (Twa.below (by assumption)) ⟨_, _, by rw [htb.out], ho1, ho2⟩).mono ?_; rintro e w2 ⟨pr, nr, cr, pq, nq, cq, rfl, hr1, hr2, hb2⟩; have htw := Twa.next (by assumption) hb2; obtain ⟨z0, z1, z2, k0, k1, k2, f0, f1, f2⟩ := Twa.slots htw))
  go_wp2_with fail
  have hfin := hiD (htw.fin (Nat.le_refl _) hsb.out hr1 hr2)
  refine bodyPost_ret (v := .agg #[.bool sb, .slice pr nr cr, .slice pq nq cq]) (by simp [results, Tryz.results39, go_sem, k0, k1, k2]) rfl ?_
  exact hfin.out
theorem cmp_any (x y : Value) (a b : Rat) (K L : Nat) (w : World) (hK : K + L + 1 ≤ 900000) (hab : QLt K a) (hbb : QLt L b) (hx : QAt w x a) (hy : QAt w y b) : Calls Tryz.prog 44 #[x, y] w fun e w' => e = .returned (.int .i64 (sgnQ (a - b))) ∧ Below w.heap.size w w' := by
  have hmi : Hid (∀ W, Below w.heap.size w W → Calls Tryz.prog 39 #[x, y] W (QPost (a - b) W)) := hiD fun W hW => minus_any x y a b K L W hK hab hbb (hx.below hW) (hy.below hW)
  have hsg : Hid (∀ W z, QAt W z (a - b) → Calls Tryz.prog 40 #[z] W fun e w' => e = .returned (.int .i64 (sgnQ (a - b))) ∧ Below W.heap.size W w') := hiD fun W z hz => sgn_any z _ W hz
  have hW : ∀ o1 o2, Hid (Below w.heap.size w ((w.alloc o1).alloc o2)) := fun o1 o2 => hiD ((below_alloc9 w o1).trans ((below_alloc9 _ o2).mono (below_alloc9 w o1).size))
  obtain ⟨p, n, c, p2, n2, c2, rfl, -, -⟩ := hx.slices
  obtain ⟨q, m, d, q2, m2, d2, rfl, -, -⟩ := hy.slices
  clear hx hy hab hbb
  obtain ⟨s, hs⟩ : ∃ s, Hid (s = decide (a.num < 0)) := ⟨_, hiD rfl⟩
  obtain ⟨t, ht⟩ : ∃ t, Hid (t = decide (b.num < 0)) := ⟨_, hiD rfl⟩
  rw [← hs.out, ← ht.out] at hmi ⊢
  go_enter Tryz.func44, Tryz.ntmps44
  go_wp2_with fail
  refine (hmi.out _ (hW _ _).out).mono ?_
  rintro e w1 ⟨z, rfl, hz, hb1⟩
  have hs1 := hiD (hsg.out w1 z hz)
  obtain ⟨p3, n3, c3, p4, n4, c4, rfl, -, -⟩ := hz.slices
  have Hb1 := hiD ((hW _ _).out.trans (hb1.mono (hW _ _).out.size))
  clear hz hb1
  obtain ⟨sz, hsz⟩ : ∃ sz, Hid (sz = decide ((a - b).num < 0)) := ⟨_, hiD rfl⟩
  rw [← hsz.out] at hs1 ⊢
  go_wp2_with fail
  refine hs1.out.mono ?_
  rintro e w2 ⟨rfl, hb2⟩
  have Hb2 := hiD (Hb1.out.trans (hb2.mono Hb1.out.size))
  clear hb2
  go_wp2_with fail
  go_ret
  exact ⟨rfl, Hb2.out⟩
end Go.Proofs.YtoegbjmoecbjdaaGreatDoor
