/- The document's Whole, Frac, Bottom. -/
import Derived.Test.YtigicjakloiliaaGreatDoorSB
set_option maxHeartbeats 3200000
set_option maxRecDepth 100000
namespace Go.Proofs.YtigicjakloiliaaGreatDoor
open Go.RowKit Big
open Go.Lib
theorem whole_any (x : Value) (q : Rat) (K : Nat) (w : World) (hK : K ≤ 900000) (hK1 : 1 ≤ K) (hq : QLt K q) (hx : QAt w x q) : Calls Tryz.prog 44 #[x] w fun e w' => e = .returned (.bool (decide (q.den = 1))) ∧ Below w.heap.size w w' := by
  have hden := hiD (fun W (hW : Below w.heap.size w W) => den_any x q W (hx.below hW))
  have hone := hiD (fun W => one_any W)
  have hcmp := hiD (fun W (u v : Value) (hu : Nat9 W u q.den) (hv : Nat9 W v 1) => natCmp_nat u v q.den 1 K W (by unfold most; omega) hq.2 (pow9_mono (K := 1) (by rw [Nat.pow_one, B9_eq]; omega) hK1) hu hv)
  have hres : Hid (((cmp3 q.den 1 == 0) : Bool) = decide (q.den = 1)) := hiD (by
    unfold cmp3
    by_cases h : q.den = 1
    · rw [h]; rfl
    · have := q.den_pos
      rw [if_neg (by omega), if_pos (by omega)]
      simp [h])
  obtain ⟨p, n, c, p2, n2, c2, rfl, -, -⟩ := hx.slices
  obtain ⟨s, hs⟩ : ∃ s, Hid (s = decide (q.num < 0)) := ⟨_, hiD rfl⟩
  rw [← hs.out] at hden ⊢
  obtain ⟨z, hz⟩ : ∃ z, Hid (z = cmp3 q.den 1) := ⟨_, hiD rfl⟩
  obtain ⟨r, hr⟩ : ∃ r, Hid (r = decide (q.den = 1)) := ⟨_, hiD rfl⟩
  rw [← hz.out, ← hr.out] at hres
  rw [← hr.out]
  clear hx hq
  go_enter Tryz.func44, Tryz.ntmps44
  go_wp2_with fail
  refine (hden.out _ (below_alloc9 _ _)).mono ?_
  rintro e w1 ⟨p3, n3, c3, rfl, hv3, hb1⟩
  have Hb1 := hiD ((below_alloc9 w _).trans (hb1.mono (below_alloc9 w _).size))
  have Hv3 := hiD hv3
  clear hb1 hv3
  go_wp2_with fail
  refine (hone.out _).mono ?_
  rintro e w2 ⟨v2, rfl, hv2, hb2, -⟩
  obtain ⟨p4, n4, c4, rfl⟩ := hv2.slice
  have Hb2 := hiD (Hb1.out.trans (hb2.mono Hb1.out.size))
  have hc2 := hiD (hcmp.out w2 _ _ (Hv3.out.below hb2) hv2)
  clear hb2 hv2
  go_wp2_with fail
  refine hc2.out.mono ?_
  rintro e w3 ⟨rfl, k, rfl⟩
  rw [← hz.out]
  go_wp2_with fail
  go_ret
  exact ⟨by rw [← hres.out]; rfl, Hb2.out.trans (below_drewN _ _ _)⟩
end Go.Proofs.YtigicjakloiliaaGreatDoor
