/- The document's Make, Sgn, Opp, IntQ, Whole. -/
import Derived.Test.YtoegbjmoecbjdaaGreatDoorRJ
set_option maxHeartbeats 3200000
set_option maxRecDepth 100000
namespace Go.Proofs.YtoegbjmoecbjdaaGreatDoor
open Go.RowKit Big
theorem QAt.zero (w : World) : QAt w (.agg #[.bool false, .slice none 0 0, .slice none 0 0]) 0 := ⟨_, _, rfl, Nat9.zero w, .inr ⟨Nat9.zero w, rfl⟩⟩
theorem make_zero (s : Bool) (p q : Option Addr) (n c m d : Nat) (w : World) (h : n = 0 ∨ m = 0) : Calls Tryz.prog 91 #[.bool s, .slice p n c, .slice q m d] w (QPost 0 w) := by
  have hres := hiD (Resa.start w)
  by_cases hn : n = 0
  · subst hn
    go_enter Tryz.func91, Tryz.ntmps91
    go_wp2_with fail
    refine bodyPost_ret (v := .agg #[.bool false, .slice none 0 0, .slice none 0 0]) (by simp [results, Tryz.results91, go_sem]) rfl ?_
    exact ⟨_, rfl, QAt.zero _, hres.out.below⟩
  · obtain rfl : m = 0 := by omega
    have hn0 : ((n : Int) == 0) = false := by simp; omega
    go_enter Tryz.func91, Tryz.ntmps91
    go_wp2_with fail
    refine bodyPost_ret (v := .agg #[.bool false, .slice none 0 0, .slice none 0 0]) (by simp [results, Tryz.results91, go_sem]) rfl ?_
    exact ⟨_, rfl, QAt.zero _, hres.out.below⟩
theorem make_pos (s : Bool) (u v : Value) (a b K : Nat) (w : World) (hK : K ≤ 900000) (ha0 : 0 < a) (hb0 : 0 < b) (ha : a < B9 ^ K) (hb : b < B9 ^ K) (hu : Nat9 w u a) (hv : Nat9 w v b) : Calls Tryz.prog 91 #[.bool s, u, v] w (QPost (ratv s a b) w) := by
  obtain ⟨p, n, c, rfl⟩ := hu.slice
  obtain ⟨q, m, d, rfl⟩ := hv.slice
  have hn0 : ((n : Int) == 0) = false := by have := hu.zero_iff (n := n); simp; omega
  have hm0 : ((m : Int) == 0) = false := by have := hv.zero_iff (n := m); simp; omega
  have hres := hiD (Resa.start w)
  obtain ⟨g, hg⟩ : ∃ g, Hid (g = Nat.gcd a b) := ⟨_, hiD rfl⟩
  have hg0 : Hid (0 < g ∧ g < B9 ^ K) := hiD (by rw [hg.out]; exact ⟨Nat.gcd_pos_of_pos_left _ ha0, Nat.lt_of_le_of_lt (Nat.gcd_le_left _ ha0) ha⟩)
  have hgcd : ∀ W, Below w.heap.size w W → Hid (Calls Tryz.prog 137 #[.slice p n c, .slice q m d] W fun e w' => ∃ gv, e = .returned gv ∧ Nat9 w' gv g ∧ Below W.heap.size W w') := fun W hW => hiD (by
    rw [hg.out]; exact natGcd_nat _ _ a b K W hK ha hb (hu.below hW) (hv.below hW))
  have hd1 : ∀ W gv, Below w.heap.size w W → Nat9 W gv g → Hid (Calls Tryz.prog 136 #[.slice p n c, gv] W (DivPost9 a g W)) := fun W gv hW h => hiD (natDiv_nat _ _ a g K W hK ha hg0.out.2 hg0.out.1 (hu.below hW) h)
  have hd2 : ∀ W gv, Below w.heap.size w W → Nat9 W gv g → Hid (Calls Tryz.prog 136 #[.slice q m d, gv] W (DivPost9 b g W)) := fun W gv hW h => hiD (natDiv_nat _ _ b g K W hK hb hg0.out.2 hg0.out.1 (hv.below hW) h)
  have hq : Hid (decide ((ratv s a b).num < 0) = s ∧ (ratv s a b).num.natAbs = a / g ∧ (ratv s a b).den = b / g) := hiD (by rw [hg.out]; exact ratv_num hb0 (fun _ => ha0))
  clear hu hv ha hb ha0 hb0
  go_enter Tryz.func91, Tryz.ntmps91
  go_wp2_with fail
  refine (hgcd _ hres.out.below).out.mono ?_
  rintro e w1 ⟨gv, rfl, hgv, hb1⟩
  obtain ⟨pg, ng, cg, rfl⟩ := hgv.slice
  have hr1 := hiD (hres.out.next hb1)
  have h1 := hd1 w1 _ hr1.out.below hgv
  have Hgv := hiD hgv
  clear hgv hb1 hgcd hd1
  go_wp2_with fail
  refine h1.out.mono ?_
  rintro e w2 ⟨v2, r2, rfl, hv2, hr, hb2⟩
  obtain ⟨p2, n2, c2, rfl⟩ := hv2.slice
  obtain ⟨p3, n3, c3, rfl⟩ := hr.slice
  have hr2 := hiD (hr1.out.next hb2)
  have h2 := hd2 w2 _ hr2.out.below (Hgv.out.below hb2)
  have Hv2 := hiD hv2
  clear hv2 hr hb2 h1 hd2
  go_wp2_with fail
  refine h2.out.mono ?_
  rintro e w3 ⟨v4, r4, rfl, hv4, hr, hb3⟩
  obtain ⟨p4, n4, c4, rfl⟩ := hv4.slice
  obtain ⟨p5, n5, c5, rfl⟩ := hr.slice
  have hr3 := hiD (hr2.out.next hb3)
  obtain ⟨z0, z1, z2, l0, l1, l2, f0, f1, f2⟩ := hr3.out.slots
  have q1 := hiD (hr3.out.nat3 (Nat.le_refl _) (Hv2.out.below hb3) s p2 p4 n2 c2 n4 c4)
  have q2 := hiD (hr3.out.nat3 (Nat.le_refl _) hv4 s p2 p4 n2 c2 n4 c4)
  have q3 := hiD (hr3.out.put3 (Nat.le_refl _) s p2 p4 n2 c2 n4 c4).below
  clear hv4 hr hb3 h2
  go_wp2_with fail
  refine bodyPost_ret (v := .agg #[.bool s, .slice p2 n2 c2, .slice p4 n4 c4]) (by simp [results, Tryz.results91, go_sem, l0, l1, l2]) rfl ?_
  exact ⟨_, rfl, ⟨_, _, by rw [hq.out.1], by rw [hq.out.2.1]; exact q1.out, .inl (by rw [hq.out.2.2]; exact q2.out)⟩, q3.out⟩
theorem make_any (s : Bool) (u v : Value) (a b K : Nat) (w : World) (hK : K ≤ 900000) (ha : a < B9 ^ K) (hb : b < B9 ^ K) (hu : Nat9 w u a) (hv : Nat9 w v b) : Calls Tryz.prog 91 #[.bool s, u, v] w (QPost (ratv s a b) w) := by
  by_cases ha0 : a = 0
  · obtain ⟨p, n, c, rfl⟩ := hu.slice
    obtain ⟨q, m, d, rfl⟩ := hv.slice
    rw [ha0, ratv_zero]
    exact make_zero s p q n c m d w (.inl (hu.zero_iff.2 ha0))
  · by_cases hb0 : b = 0
    · obtain ⟨p, n, c, rfl⟩ := hu.slice
      obtain ⟨q, m, d, rfl⟩ := hv.slice
      rw [hb0, ratv_den0]
      exact make_zero s p q n c m d w (.inr (hv.zero_iff.2 hb0))
    · exact make_pos s u v a b K w hK (by omega) (by omega) ha hb hu hv
def sgnQ (q : Rat) : Int := if q.num < 0 then -1 else if q.num = 0 then 0 else 1
theorem sgn_any (x : Value) (q : Rat) (w : World) (hx : QAt w x q) : Calls Tryz.prog 40 #[x] w fun e w' => e = .returned (.int .i64 (sgnQ q)) ∧ Below w.heap.size w w' := by
  obtain ⟨p, n, c, p2, n2, c2, rfl, hu, -⟩ := hx.slices
  have hz := hu.zero_iff (n := n)
  by_cases h0 : q.num = 0
  · have hs : Hid (sgnQ q = 0) := hiD (by unfold sgnQ; rw [h0]; rfl)
    have hn : n = 0 := hz.2 (by rw [h0]; rfl)
    subst hn
    have hd : decide (q.num < 0) = false := by rw [h0]; rfl
    rw [hd]
    clear hu hz h0 hx hd
    go_enter Tryz.func40, Tryz.ntmps40
    go_wp2_with fail
    go_ret
    exact ⟨by rw [hs.out]; rfl, below_alloc9 _ _⟩
  · have hn0 : ((n : Int) == 0) = false := by simp; omega
    by_cases h1 : q.num < 0
    · have hs : Hid (sgnQ q = -1) := hiD (by unfold sgnQ; rw [if_pos h1])
      have hd : decide (q.num < 0) = true := by simpa using h1
      rw [hd]
      clear hu hz h0 h1 hx hd
      go_enter Tryz.func40, Tryz.ntmps40
      go_wp2_with fail
      go_ret
      exact ⟨by rw [hs.out]; rfl, below_alloc9 _ _⟩
    · have hs : Hid (sgnQ q = 1) := hiD (by unfold sgnQ; rw [if_neg h1, if_neg h0])
      have hd : decide (q.num < 0) = false := by simpa using h1
      rw [hd]
      clear hu hz h0 h1 hx hd
      go_enter Tryz.func40, Tryz.ntmps40
      go_wp2_with fail
      go_ret
      exact ⟨by rw [hs.out]; rfl, below_alloc9 _ _⟩
theorem opp_any (x : Value) (q : Rat) (w : World) (hx : QAt w x q) : Calls Tryz.prog 41 #[x] w (QPost (-q) w) := by
  obtain ⟨p, n, c, p2, n2, c2, rfl, hu, hv⟩ := hx.slices
  have hz := hu.zero_iff (n := n)
  have hpost : ∀ f W, f = decide ((-q).num < 0) → Below w.heap.size w W → QPost (-q) w (.returned (.agg #[.bool f, .slice p n c, .slice p2 n2 c2])) W := by
    rintro f W rfl hW
    refine ⟨_, rfl, ⟨_, _, rfl, ?_, ?_⟩, hW⟩
    · rw [Rat.neg_num, Int.natAbs_neg]; exact hu.below hW
    · rw [Rat.neg_den]; exact hv.imp (·.below hW) fun h => ⟨h.1.below hW, h.2⟩
  have Hpost := hiD hpost
  have hW : ∀ o1 o2, Hid (Below w.heap.size w ((w.alloc o1).alloc o2)) := fun o1 o2 => hiD ((below_alloc9 w o1).trans ((below_alloc9 _ o2).mono (below_alloc9 w o1).size))
  by_cases h1 : q.num < 0
  · have hd : decide (q.num < 0) = true := by simpa using h1
    have hf : Hid (false = decide ((-q).num < 0)) := hiD (by rw [Rat.neg_num]; symm; simp; omega)
    rw [hd]
    clear hu hv hz hx hpost h1 hd
    go_enter Tryz.func41, Tryz.ntmps41
    go_wp2_with fail
    refine bodyPost_ret (v := .agg #[.bool false, .slice p n c, .slice p2 n2 c2]) (by simp [results, Tryz.results41, go_sem]) rfl ?_
    exact Hpost.out _ _ hf.out (hW _ _).out
  · have hd : decide (q.num < 0) = false := by simpa using h1
    rw [hd]
    by_cases h0 : q.num = 0
    · have hn : n = 0 := hz.2 (by rw [h0]; rfl)
      subst hn
      have hf : Hid (false = decide ((-q).num < 0)) := hiD (by rw [Rat.neg_num, h0]; rfl)
      clear hu hv hz hx hpost h1 h0 hd
      go_enter Tryz.func41, Tryz.ntmps41
      go_wp2_with fail
      refine bodyPost_ret (v := .agg #[.bool false, .slice p 0 c, .slice p2 n2 c2]) (by simp [results, Tryz.results41, go_sem]) rfl ?_
      exact Hpost.out _ _ hf.out (hW _ _).out
    · have hn0 : (0 : Int) < n := by omega
      have hf : Hid (true = decide ((-q).num < 0)) := hiD (by rw [Rat.neg_num]; symm; simp; omega)
      clear hu hv hz hx hpost h1 h0 hd
      go_enter Tryz.func41, Tryz.ntmps41
      go_wp2_with fail
      refine bodyPost_ret (v := .agg #[.bool true, .slice p n c, .slice p2 n2 c2]) (by simp [results, Tryz.results41, go_sem]; omega) rfl ?_
      exact Hpost.out _ _ hf.out (hW _ _).out
end Go.Proofs.YtoegbjmoecbjdaaGreatDoor
