/- The document's Whole, Frac, Bottom. -/
import Derived.Test.YtigicjakloiliaaGreatDoorSB
set_option maxHeartbeats 3200000
set_option maxRecDepth 100000
namespace Go.Proofs.YtigicjakloiliaaGreatDoor
open Go.RowKit Big
open Go.Lib
theorem whole_any (x : Value) (q : Rat) (K : Nat) (w : World) (hK : K ≤ 900000) (hK1 : 1 ≤ K) (hq : QLt K q) (hx : QAt w x q) : Calls Tryz.prog 44 #[x] w fun e w' => e = .returned (.bool (decide (q.den = 1))) ∧ Below w.heap.size w w' := by
  have hden := Lib.hid (fun W (hW : Below w.heap.size w W) => den_any x q W (hx.below hW))
  have hone := Lib.hid (fun W => one_any W)
  have hcmp := Lib.hid (fun W (u v : Value) (hu : Nat9 W u q.den) (hv : Nat9 W v 1) => natCmp_nat u v q.den 1 K W (by unfold most; omega) hq.2 (pow9_mono (K := 1) (by rw [Nat.pow_one, B9_eq]; omega) hK1) hu hv)
  have hres : Hid (((cmp3 q.den 1 == 0) : Bool) = decide (q.den = 1)) := Lib.hid (by
    unfold cmp3
    by_cases h : q.den = 1
    · rw [h]; rfl
    · have := q.den_pos
      rw [if_neg (by omega), if_pos (by omega)]
      simp [h])
  obtain ⟨p, n, c, p2, n2, c2, rfl, -, -⟩ := hx.slices
  obtain ⟨s, hs⟩ : ∃ s, Hid (s = decide (q.num < 0)) := ⟨_, Lib.hid rfl⟩
  rw [← hs.out] at hden ⊢
  obtain ⟨z, hz⟩ : ∃ z, Hid (z = cmp3 q.den 1) := ⟨_, Lib.hid rfl⟩
  obtain ⟨r, hr⟩ : ∃ r, Hid (r = decide (q.den = 1)) := ⟨_, Lib.hid rfl⟩
  rw [← hz.out, ← hr.out] at hres
  rw [← hr.out]
  clear hx hq
  go_enter Tryz.func44, Tryz.ntmps44
  go_wp2_with fail
  refine (hden.out _ (below_alloc9 _ _)).mono ?_
  rintro e w1 ⟨p3, n3, c3, rfl, hv3, hb1⟩
  have Hb1 := Lib.hid ((below_alloc9 w _).trans (hb1.mono (below_alloc9 w _).size))
  have Hv3 := Lib.hid hv3
  clear hb1 hv3
  go_wp2_with fail
  refine (hone.out _).mono ?_
  rintro e w2 ⟨v2, rfl, hv2, hb2, -⟩
  obtain ⟨p4, n4, c4, rfl⟩ := hv2.slice
  have Hb2 := Lib.hid (Hb1.out.trans (hb2.mono Hb1.out.size))
  have hc2 := Lib.hid (hcmp.out w2 _ _ (Hv3.out.below hb2) hv2)
  clear hb2 hv2
  go_wp2_with fail
  refine hc2.out.mono ?_
  rintro e w3 ⟨rfl, k, rfl⟩
  rw [← hz.out]
  go_wp2_with fail
  go_ret
  exact ⟨by rw [← hres.out]; rfl, Hb2.out.trans (below_drewN _ _ _)⟩
theorem frac_any (a b : Int) (w : World) (ha : -1000000000 ≤ a ∧ a ≤ 1000000000) (hb : -1000000000 ≤ b ∧ b ≤ 1000000000) : Calls Tryz.prog 48 #[.int .i64 a, .int .i64 b] w (QPost ((a : Rat) / (b : Rat)) w) := by
  have hl : ∀ z : Int, -1000000000 ≤ z ∧ z ≤ 1000000000 → QLt 2 (z : Rat) := fun z h => ⟨by rw [Rat.num_intCast, B9_eq]; omega, by rw [Rat.den_intCast, B9_eq]; omega⟩
  have h1 := Lib.hid (fun W => intq_any a W (by omega) (by omega))
  have h2 := Lib.hid (fun W => intq_any b W (by omega) (by omega))
  obtain ⟨sb, hsb⟩ : ∃ sb, Hid (sb = decide ((((a : Rat) / (b : Rat))).num < 0)) := ⟨_, Lib.hid rfl⟩
  have h3 := Lib.hid (fun W (x y : Value) (hx : QAt W x (a : Rat)) (hy : QAt W y (b : Rat)) => (quot_any x y (a : Rat) (b : Rat) 2 2 W (by omega) (hl a ha) (hl b hb) hx hy).mono fun e w' h => h.b hsb.out)
  have hres := Lib.hid (Resa.start w)
  clear hl
  go_enter Tryz.func48, Tryz.ntmps48
  go_wp2_with fail
  refine (h1.out _).mono ?_
  rintro e w1 ⟨x1, rfl, hx1, hb1⟩
  obtain ⟨p, n, c, p2, n2, c2, rfl, hu, hv⟩ := hx1.slices
  have hr1 := Lib.hid (hres.out.next hb1)
  have Hx1 := Lib.hid hx1
  obtain ⟨s1, hs1⟩ : ∃ s1, Hid (s1 = decide ((a : Rat).num < 0)) := ⟨_, Lib.hid rfl⟩
  rw [← hs1.out] at Hx1 ⊢
  clear hx1 hu hv hb1
  go_wp2_with fail
  refine (h2.out _).mono ?_
  rintro e w2 ⟨x2, rfl, hx2, hb2⟩
  have h4 := Lib.hid (h3.out w2 _ _ (Hx1.out.below hb2) hx2)
  obtain ⟨q, m, d, q2, m2, d2, rfl, hu, hv⟩ := hx2.slices
  have hr2 := Lib.hid (hr1.out.next hb2)
  obtain ⟨s2, hs2⟩ : ∃ s2, Hid (s2 = decide ((b : Rat).num < 0)) := ⟨_, Lib.hid rfl⟩
  rw [← hs2.out] at h4 ⊢
  clear hx2 hu hv hb2
  go_wp2_with fail
  refine h4.out.mono ?_
  rintro e w3 ⟨pr, nr, cr, pq, nq, cq, rfl, hr1', hr2', hb3⟩
  have hrz := Lib.hid (hr2.out.next hb3)
  have hfin := Lib.hid (hrz.out.fin (Nat.le_refl _) hsb.out hr1' hr2')
  obtain ⟨z0, z1, z2, l0, l1, l2, f0, f1, f2⟩ := hrz.out.slots
  clear hr1' hr2' hb3
  go_wp2_with fail
  refine bodyPost_ret (v := .agg #[.bool sb, .slice pr nr cr, .slice pq nq cq]) ?h1 rfl ?h2
  case h1 => simp [results, Tryz.results48, go_sem, l0, l1, l2]
  exact hfin.out
end Go.Proofs.YtigicjakloiliaaGreatDoor
