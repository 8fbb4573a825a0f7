/- The document's Prod and Quot. -/
import Derived.Test.YtoegbjmoecbjdaaGreatDoorRK
import Derived.Deep.RegionHeld3
import Derived.Deep.RegionWith
set_option maxHeartbeats 3200000
set_option maxRecDepth 100000
namespace Go.Proofs.YtoegbjmoecbjdaaGreatDoor
open Go.RowKit Big
theorem prod_parts (a b : Rat) : ratv (decide (a.num < 0) != decide (b.num < 0)) (a.num.natAbs * b.num.natAbs) (a.den * b.den) = a * b := by
  rw [ratv_mul a.den_pos b.den_pos, ratv_self, ratv_self]
theorem quot_parts (a b : Rat) : ratv (decide (a.num < 0) != decide (b.num < 0)) (a.num.natAbs * b.den) (a.den * b.num.natAbs) = a / b := by
  by_cases h : b.num.natAbs = 0
  · have hb : b = 0 := Rat.num_eq_zero.1 (by omega)
    rw [h, Nat.mul_zero, ratv_den0, hb]; grind
  · rw [ratv_quo a.den_pos b.den_pos (by omega), ratv_self, ratv_self]
theorem QLt.mono {K L : Nat} {q : Rat} (h : QLt K q) (hK : K ≤ L) : QLt L q := ⟨pow9_mono h.1 hK, pow9_mono h.2 hK⟩
def QPostB (q : Rat) (sb : Bool) (w : World) (e : Ending) (w' : World) : Prop := ∃ p n c p2 n2 c2, e = .returned (.agg #[.bool sb, .slice p n c, .slice p2 n2 c2]) ∧ Nat9 w' (.slice p n c) q.num.natAbs ∧ (Nat9 w' (.slice p2 n2 c2) q.den ∨ (Nat9 w' (.slice p2 n2 c2) 0 ∧ q.den = 1)) ∧ Below w.heap.size w w'
theorem QPost.b {q : Rat} {sb : Bool} {w w' : World} {e : Ending} (h : QPost q w e w') (hs : sb = decide (q.num < 0)) : QPostB q sb w e w' := by
  obtain ⟨x, rfl, hx, hb⟩ := h
  obtain ⟨p, n, c, p2, n2, c2, rfl, h1, h2⟩ := hx.slices
  exact ⟨p, n, c, p2, n2, c2, by rw [hs], h1, h2, hb⟩
theorem Twa.fin {B : Nat} {s : Bool} {u1 v1 : Value} {t : Bool} {u2 v2 : Value} {w0 W : World} {q : Rat} {sb : Bool} {p p2 : Option Addr} {n c n2 c2 : Nat} (h : Twa B s u1 v1 t u2 v2 w0 W) (hB : w0.heap.size ≤ B) (hs : sb = decide (q.num < 0))
    (h1 : Nat9 W (.slice p n c) q.num.natAbs) (h2 : Nat9 W (.slice p2 n2 c2) q.den ∨ (Nat9 W (.slice p2 n2 c2) 0 ∧ q.den = 1)) :
    QPost q w0 (.returned (.agg #[.bool sb, .slice p n c, .slice p2 n2 c2])) (((W.setCell ⟨B + 1 + 1, 0, none⟩ (.bool sb)).setCell ⟨B + 1 + 1, 1, none⟩ (.slice p n c)).setCell ⟨B + 1 + 1, 2, none⟩ (.slice p2 n2 c2)) :=
  ⟨_, rfl, ⟨_, _, by rw [hs], h.nat3 hB h1 sb p p2 n c n2 c2, h2.imp (fun h2 => h.nat3 hB h2 sb p p2 n c n2 c2) fun h2 => ⟨h.nat3 hB h2.1 sb p p2 n c n2 c2, h2.2⟩⟩, (h.put3 hB sb p p2 n c n2 c2).below⟩
theorem prod_any (x y : Value) (a b : Rat) (K L : Nat) (w : World) (hK : K + L ≤ 900000) (hab : QLt K a) (hbb : QLt L b) (hx : QAt w x a) (hy : QAt w y b) : Calls Tryz.prog 45 #[x, y] w (QPost (a * b) w) := by
  have hdx0 : Hid (∀ W, Below w.heap.size w W → Calls Tryz.prog 89 #[x] W (Some9 a.den W)) := hiD fun W hW => den_any x a W (hx.below hW)
  have hdy0 : Hid (∀ W, Below w.heap.size w W → Calls Tryz.prog 89 #[y] W (Some9 b.den W)) := hiD fun W hW => den_any y b W (hy.below hW)
  obtain ⟨u1, v1, rfl, hu1, hv1⟩ := hx
  obtain ⟨u2, v2, rfl, hu2, hv2⟩ := hy
  obtain ⟨s, hs⟩ : ∃ s, Hid (s = decide (a.num < 0)) := ⟨_, hiD rfl⟩
  obtain ⟨t, ht⟩ : ∃ t, Hid (t = decide (b.num < 0)) := ⟨_, hiD rfl⟩
  rw [← hs.out] at hdx0 ⊢
  rw [← ht.out] at hdy0 ⊢
  have hdx := hdx0
  have hdy := hdy0
  clear hdx0 hdy0
  obtain ⟨sb, hsb⟩ : ∃ sb, Hid (sb = decide ((a * b).num < 0)) := ⟨_, hiD rfl⟩
  have hm1 : Hid (∀ W p q, Nat9 W p a.num.natAbs → Nat9 W q b.num.natAbs → Calls Tryz.prog 92 #[p, q] W (Post9 (a.num.natAbs * b.num.natAbs) W)) := hiD fun W p q h1 h2 => natMul_nat _ _ _ _ K L W (by unfold most; omega) (by unfold most; omega) hab.1 hbb.1 h1 h2
  have hm2 : Hid (∀ W p q, Nat9 W p a.den → Nat9 W q b.den → Calls Tryz.prog 92 #[p, q] W (Post9 (a.den * b.den) W)) := hiD fun W p q h1 h2 => natMul_nat _ _ _ _ K L W (by unfold most; omega) (by unfold most; omega) hab.2 hbb.2 h1 h2
  have hmk : Hid (∀ W f p q, f = (s != t) → Nat9 W p (a.num.natAbs * b.num.natAbs) → Nat9 W q (a.den * b.den) → Calls Tryz.prog 91 #[.bool f, p, q] W (QPostB (a * b) sb W)) := hiD fun W f p q hf h1 h2 => by
    have h := make_any f p q _ _ (K + L) W hK (pow9_mul hab.1 hbb.1) (pow9_mul hab.2 hbb.2) h1 h2
    have he : ratv f (a.num.natAbs * b.num.natAbs) (a.den * b.den) = a * b := by rw [hf, hs.out, ht.out]; exact prod_parts a b
    rw [he] at h
    exact h.mono fun e w' h => h.b hsb.out
  have htwo := Twa.start w s u1 v1 t u2 v2
  have Htwo := hiD htwo
  obtain ⟨-, c0, c1, c2, c3, c4, c5⟩ := htwo.all
  clear htwo hv1 hv2 hab hbb
  go_enter Tryz.func45, Tryz.ntmps45
  go_wp2_with fail
  go_region_held3 (fun w' => Twa w.heap.size s u1 v1 t u2 v2 w w' ∧ w'.cell? ⟨w.heap.size, 0, none⟩ = some (.bool s) ∧ w'.cell? ⟨w.heap.size, 1, none⟩ = some u1 ∧ w'.cell? ⟨w.heap.size, 2, none⟩ = some v1 ∧ w'.cell? ⟨w.heap.size + 1, 0, none⟩ = some (.bool t) ∧ w'.cell? ⟨w.heap.size + 1, 1, none⟩ = some u2 ∧ w'.cell? ⟨w.heap.size + 1, 2, none⟩ = some v2)
    (first | exact Twa.all (Twa.drew Htwo.out) | exact Twa.all Htwo.out | (go_split_ands; exact Twa.all (Twa.next (by assumption) hb1)) | (go_split_ands; exact Twa.all (Twa.next (by assumption) hb2)) | (go_split_ands; exact Twa.all (Twa.next (by assumption) hb3)) | (go_split_ands; exact Twa.all (Twa.next (by assumption) hb4)) | (go_split_ands; exact Twa.all (Twa.next (by assumption) hb5)) | (go_split_ands; exact Twa.all (Twa.put3 (by assumption) (Nat.le_refl _) _ _ _ _ _ _ _)) | go_keep)
    (first | (go_at_call_of 92 (u1); go_split_ands; refine (hm1.out _ _ _ (hu1.below (Twa.below (by assumption))) (hu2.below (Twa.below (by assumption)))).mono ?_; rintro e w1 ⟨vt, rfl, hvt, hb1, -⟩; obtain ⟨pt, nt, ct, rfl⟩ := hvt.slice) | (go_at_call_of 89 (Value.agg #[Value.bool s, u1, v1]); go_split_ands; refine (hdx.out _ (Twa.below (by assumption))).mono ?_; rintro e w2 ⟨px, nx, cx, rfl, hvx, hb2⟩) | (go_at_call_of 89 (Value.agg #[Value.bool t, u2, v2]); go_split_ands; refine (hdy.out _ (Twa.below (by assumption))).mono ?_; rintro e w3 ⟨py, ny, cy, rfl, hvy, hb3⟩) | (go_at_call_of 92 (Value.slice px nx cx); go_split_ands; refine (hm2.out _ _ _ (hvx.below hb3) hvy).mono ?_; rintro e w4 ⟨vb, rfl, hvb, hb4, -⟩; obtain ⟨pb, nb, cb, rfl⟩ := hvb.slice) | (go_at_call 91; go_split_ands; refine (hmk.out _ _ _ _ rfl (((hvt.below hb2).below hb3).below hb4) hvb).mono ?_; rintro e w5 ⟨pr, nr, cr, pq, nq, cq, rfl, hr1, hr2, hb5⟩; have htw := Twa.next (by assumption) hb5; obtain ⟨z0, z1, z2, k0, k1, k2, f0, f1, f2⟩ := Twa.slots htw))
  go_wp2_with fail
  have hfin := hiD (htw.fin (Nat.le_refl _) hsb.out hr1 hr2)
  refine bodyPost_ret (v := .agg #[.bool sb, .slice pr nr cr, .slice pq nq cq]) (by simp [results, Tryz.results45, go_sem, k0, k1, k2]) rfl ?_
  exact hfin.out
theorem quot_any (x y : Value) (a b : Rat) (K L : Nat) (w : World) (hK : K + L ≤ 900000) (hab : QLt K a) (hbb : QLt L b) (hx : QAt w x a) (hy : QAt w y b) : Calls Tryz.prog 43 #[x, y] w (QPost (a / b) w) := by
  have hdx0 : Hid (∀ W, Below w.heap.size w W → Calls Tryz.prog 89 #[x] W (Some9 a.den W)) := hiD fun W hW => den_any x a W (hx.below hW)
  have hdy0 : Hid (∀ W, Below w.heap.size w W → Calls Tryz.prog 89 #[y] W (Some9 b.den W)) := hiD fun W hW => den_any y b W (hy.below hW)
  obtain ⟨u1, v1, rfl, hu1, hv1⟩ := hx
  obtain ⟨u2, v2, rfl, hu2, hv2⟩ := hy
  obtain ⟨s, hs⟩ : ∃ s, Hid (s = decide (a.num < 0)) := ⟨_, hiD rfl⟩
  obtain ⟨t, ht⟩ : ∃ t, Hid (t = decide (b.num < 0)) := ⟨_, hiD rfl⟩
  rw [← hs.out] at hdx0 ⊢
  rw [← ht.out] at hdy0 ⊢
  have hdx := hdx0
  have hdy := hdy0
  clear hdx0 hdy0
  obtain ⟨sb, hsb⟩ : ∃ sb, Hid (sb = decide ((a / b).num < 0)) := ⟨_, hiD rfl⟩
  have hm1 : Hid (∀ W p q, Nat9 W p a.num.natAbs → Nat9 W q b.den → Calls Tryz.prog 92 #[p, q] W (Post9 (a.num.natAbs * b.den) W)) := hiD fun W p q h1 h2 => natMul_nat _ _ _ _ K L W (by unfold most; omega) (by unfold most; omega) hab.1 hbb.2 h1 h2
  have hm2 : Hid (∀ W p q, Nat9 W p a.den → Nat9 W q b.num.natAbs → Calls Tryz.prog 92 #[p, q] W (Post9 (a.den * b.num.natAbs) W)) := hiD fun W p q h1 h2 => natMul_nat _ _ _ _ K L W (by unfold most; omega) (by unfold most; omega) hab.2 hbb.1 h1 h2
  have hmk : Hid (∀ W f p q, f = (s != t) → Nat9 W p (a.num.natAbs * b.den) → Nat9 W q (a.den * b.num.natAbs) → Calls Tryz.prog 91 #[.bool f, p, q] W (QPostB (a / b) sb W)) := hiD fun W f p q hf h1 h2 => by
    have h := make_any f p q _ _ (K + L) W hK (pow9_mul hab.1 hbb.2) (pow9_mul hab.2 hbb.1) h1 h2
    have he : ratv f (a.num.natAbs * b.den) (a.den * b.num.natAbs) = a / b := by rw [hf, hs.out, ht.out]; exact quot_parts a b
    rw [he] at h
    exact h.mono fun e w' h => h.b hsb.out
  have htwo := Twa.start w s u1 v1 t u2 v2
  have Htwo := hiD htwo
  obtain ⟨-, c0, c1, c2, c3, c4, c5⟩ := htwo.all
  clear htwo hv1 hv2 hab hbb
  go_enter Tryz.func43, Tryz.ntmps43
  go_wp2_with fail
  go_region_held3 (fun w' => Twa w.heap.size s u1 v1 t u2 v2 w w' ∧ w'.cell? ⟨w.heap.size, 0, none⟩ = some (.bool s) ∧ w'.cell? ⟨w.heap.size, 1, none⟩ = some u1 ∧ w'.cell? ⟨w.heap.size, 2, none⟩ = some v1 ∧ w'.cell? ⟨w.heap.size + 1, 0, none⟩ = some (.bool t) ∧ w'.cell? ⟨w.heap.size + 1, 1, none⟩ = some u2 ∧ w'.cell? ⟨w.heap.size + 1, 2, none⟩ = some v2)
    (first | exact Twa.all (Twa.drew Htwo.out) | exact Twa.all Htwo.out | (go_split_ands; exact Twa.all (Twa.next (by assumption) hb1)) | (go_split_ands; exact Twa.all (Twa.next (by assumption) hb2)) | (go_split_ands; exact Twa.all (Twa.next (by assumption) hb3)) | (go_split_ands; exact Twa.all (Twa.next (by assumption) hb4)) | (go_split_ands; exact Twa.all (Twa.next (by assumption) hb5)) | (go_split_ands; exact Twa.all (Twa.put3 (by assumption) (Nat.le_refl _) _ _ _ _ _ _ _)) | go_keep)
    (first | (go_at_call_of 89 (Value.agg #[Value.bool t, u2, v2]); go_split_ands; refine (hdy.out _ (Twa.below (by assumption))).mono ?_; rintro e w1 ⟨py, ny, cy, rfl, hvy, hb1⟩) | (go_at_call_of 92 (u1); go_split_ands; refine (hm1.out _ _ _ (hu1.below (Twa.below (by assumption))) hvy).mono ?_; rintro e w2 ⟨vt, rfl, hvt, hb2, -⟩; obtain ⟨pt, nt, ct, rfl⟩ := hvt.slice) | (go_at_call_of 89 (Value.agg #[Value.bool s, u1, v1]); go_split_ands; refine (hdx.out _ (Twa.below (by assumption))).mono ?_; rintro e w3 ⟨px, nx, cx, rfl, hvx, hb3⟩) | (go_at_call_of 92 (Value.slice px nx cx); go_split_ands; refine (hm2.out _ _ _ hvx (hu2.below (Twa.below (by assumption)))).mono ?_; rintro e w4 ⟨vb, rfl, hvb, hb4, -⟩; obtain ⟨pb, nb, cb, rfl⟩ := hvb.slice) | (go_at_call 91; go_split_ands; refine (hmk.out _ _ _ _ rfl ((hvt.below hb3).below hb4) hvb).mono ?_; rintro e w5 ⟨pr, nr, cr, pq, nq, cq, rfl, hr1, hr2, hb5⟩; have htw := Twa.next (by assumption) hb5; obtain ⟨z0, z1, z2, k0, k1, k2, f0, f1, f2⟩ := Twa.slots htw))
  go_wp2_with fail
  have hfin := hiD (htw.fin (Nat.le_refl _) hsb.out hr1 hr2)
  refine bodyPost_ret (v := .agg #[.bool sb, .slice pr nr cr, .slice pq nq cq]) (by simp [results, Tryz.results43, go_sem, k0, k1, k2]) rfl ?_
  exact hfin.out
end Go.Proofs.YtoegbjmoecbjdaaGreatDoor
