/- The document's Make, Sgn, Opp, IntQ, Whole. -/
import Derived.Test.YtigicjakloiliaaGreatDoorRJ
namespace Go.Proofs.YtigicjakloiliaaGreatDoor
open Go.RowKit Big

theorem QAt.zero (w : World) : QAt w (.agg #[.bool false, .slice none 0 0, .slice none 0 0]) 0 := ⟨_, _, rfl, Nat9.zero w, .inr ⟨Nat9.zero w, rfl⟩⟩

set_option maxRecDepth 100000 in
set_option maxHeartbeats 3200000 in
theorem make_zero (s : Bool) (p q : Option Addr) (n c m d : Nat) (w : World) (h : n = 0 ∨ m = 0) : Calls Tryz.prog 98 #[.bool s, .slice p n c, .slice q m d] w (QPost 0 w) := by
  have hres := Lib.hid (Resa.start w)
  by_cases hn : n = 0
  · subst hn
    go_enter Tryz.func98, Tryz.ntmps98
    go_wp2_with fail
    refine bodyPost_ret (v := .agg #[.bool false, .slice none 0 0, .slice none 0 0]) (by simp [results, Tryz.results98, go_sem]) rfl ?_
    exact ⟨_, rfl, QAt.zero _, hres.out.below⟩
  · obtain rfl : m = 0 := by omega
    have hn0 : ((n : Int) == 0) = false := by simp; omega
    go_enter Tryz.func98, Tryz.ntmps98
    go_wp2_with fail
    refine bodyPost_ret (v := .agg #[.bool false, .slice none 0 0, .slice none 0 0]) (by simp [results, Tryz.results98, go_sem]) rfl ?_
    exact ⟨_, rfl, QAt.zero _, hres.out.below⟩

set_option maxRecDepth 100000 in
set_option maxHeartbeats 3200000 in
theorem make_pos (s : Bool) (u v : Value) (a b K : Nat) (w : World) (hK : K ≤ 900000) (ha0 : 0 < a) (hb0 : 0 < b) (ha : a < B9 ^ K) (hb : b < B9 ^ K) (hu : Nat9 w u a) (hv : Nat9 w v b) : Calls Tryz.prog 98 #[.bool s, u, v] w (QPost (ratv s a b) w) := by
  obtain ⟨p, n, c, rfl⟩ := hu.slice
  obtain ⟨q, m, d, rfl⟩ := hv.slice
  have hn0 : ((n : Int) == 0) = false := by have := hu.zero_iff (n := n); simp; omega
  have hm0 : ((m : Int) == 0) = false := by have := hv.zero_iff (n := m); simp; omega
  have hres := Lib.hid (Resa.start w)
  obtain ⟨g, hg⟩ : ∃ g, Hid (g = Nat.gcd a b) := ⟨_, Lib.hid rfl⟩
  have hg0 : Hid (0 < g ∧ g < B9 ^ K) := Lib.hid (by rw [hg.out]; exact ⟨Nat.gcd_pos_of_pos_left _ ha0, Nat.lt_of_le_of_lt (Nat.gcd_le_left _ ha0) ha⟩)
  have hgcd : ∀ W, Below w.heap.size w W → Hid (Calls Tryz.prog 149 #[.slice p n c, .slice q m d] W fun e w' => ∃ gv, e = .returned gv ∧ Nat9 w' gv g ∧ Below W.heap.size W w') := fun W hW => Lib.hid (by
    rw [hg.out]; exact natGcd_nat _ _ a b K W hK ha hb (hu.below hW) (hv.below hW))
  have hd1 : ∀ W gv, Below w.heap.size w W → Nat9 W gv g → Hid (Calls Tryz.prog 148 #[.slice p n c, gv] W (DivPost9 a g W)) := fun W gv hW h => Lib.hid (natDiv_nat _ _ a g K W hK ha hg0.out.2 hg0.out.1 (hu.below hW) h)
  have hd2 : ∀ W gv, Below w.heap.size w W → Nat9 W gv g → Hid (Calls Tryz.prog 148 #[.slice q m d, gv] W (DivPost9 b g W)) := fun W gv hW h => Lib.hid (natDiv_nat _ _ b g K W hK hb hg0.out.2 hg0.out.1 (hv.below hW) h)
  have hq : Hid (decide ((ratv s a b).num < 0) = s ∧ (ratv s a b).num.natAbs = a / g ∧ (ratv s a b).den = b / g) := Lib.hid (by rw [hg.out]; exact ratv_num hb0 (fun _ => ha0))
  clear hu hv ha hb ha0 hb0
  go_enter Tryz.func98, Tryz.ntmps98
  go_wp2_with fail
  refine (hgcd _ hres.out.below).out.mono ?_
  rintro e w1 ⟨gv, rfl, hgv, hb1⟩
  obtain ⟨pg, ng, cg, rfl⟩ := hgv.slice
  have hr1 := Lib.hid (hres.out.next hb1)
  have h1 := hd1 w1 _ hr1.out.below hgv
  have Hgv := Lib.hid hgv
  clear hgv hb1 hgcd hd1
  go_wp2_with fail
  refine h1.out.mono ?_
  rintro e w2 ⟨v2, r2, rfl, hv2, hr, hb2⟩
  obtain ⟨p2, n2, c2, rfl⟩ := hv2.slice
  obtain ⟨p3, n3, c3, rfl⟩ := hr.slice
  have hr2 := Lib.hid (hr1.out.next hb2)
  have h2 := hd2 w2 _ hr2.out.below (Hgv.out.below hb2)
  have Hv2 := Lib.hid hv2
  clear hv2 hr hb2 h1 hd2
  go_wp2_with fail
  refine h2.out.mono ?_
  rintro e w3 ⟨v4, r4, rfl, hv4, hr, hb3⟩
  obtain ⟨p4, n4, c4, rfl⟩ := hv4.slice
  obtain ⟨p5, n5, c5, rfl⟩ := hr.slice
  have hr3 := Lib.hid (hr2.out.next hb3)
  obtain ⟨z0, z1, z2, l0, l1, l2, f0, f1, f2⟩ := hr3.out.slots
  have q1 := Lib.hid (hr3.out.nat3 (Nat.le_refl _) (Hv2.out.below hb3) s p2 p4 n2 c2 n4 c4)
  have q2 := Lib.hid (hr3.out.nat3 (Nat.le_refl _) hv4 s p2 p4 n2 c2 n4 c4)
  have q3 := Lib.hid (hr3.out.put3 (Nat.le_refl _) s p2 p4 n2 c2 n4 c4).below
  clear hv4 hr hb3 h2
  go_wp2_with fail
  refine bodyPost_ret (v := .agg #[.bool s, .slice p2 n2 c2, .slice p4 n4 c4]) (by simp [results, Tryz.results98, go_sem, l0, l1, l2]) rfl ?_
  exact ⟨_, rfl, ⟨_, _, by rw [hq.out.1], by rw [hq.out.2.1]; exact q1.out, .inl (by rw [hq.out.2.2]; exact q2.out)⟩, q3.out⟩

theorem make_any (s : Bool) (u v : Value) (a b K : Nat) (w : World) (hK : K ≤ 900000) (ha : a < B9 ^ K) (hb : b < B9 ^ K) (hu : Nat9 w u a) (hv : Nat9 w v b) : Calls Tryz.prog 98 #[.bool s, u, v] w (QPost (ratv s a b) w) := by
  by_cases ha0 : a = 0
  · obtain ⟨p, n, c, rfl⟩ := hu.slice
    obtain ⟨q, m, d, rfl⟩ := hv.slice
    rw [ha0, ratv_zero]
    exact make_zero s p q n c m d w (.inl (hu.zero_iff.2 ha0))
  · by_cases hb0 : b = 0
    · obtain ⟨p, n, c, rfl⟩ := hu.slice
      obtain ⟨q, m, d, rfl⟩ := hv.slice
      rw [hb0, ratv_den0]
      exact make_zero s p q n c m d w (.inr (hv.zero_iff.2 hb0))
    · exact make_pos s u v a b K w hK (by omega) (by omega) ha hb hu hv

/-- The sign of a rational number. -/
def sgnQ (q : Rat) : Int := if q.num < 0 then -1 else if q.num = 0 then 0 else 1

set_option maxRecDepth 100000 in
set_option maxHeartbeats 3200000 in
theorem sgn_any (x : Value) (q : Rat) (w : World) (hx : QAt w x q) : Calls Tryz.prog 42 #[x] w fun e w' => e = .returned (.int .i64 (sgnQ q)) ∧ Below w.heap.size w w' := by
  obtain ⟨p, n, c, p2, n2, c2, rfl, hu, -⟩ := hx.slices
  have hz := hu.zero_iff (n := n)
  by_cases h0 : q.num = 0
  · have hs : Hid (sgnQ q = 0) := Lib.hid (by unfold sgnQ; rw [h0]; rfl)
    have hn : n = 0 := hz.2 (by rw [h0]; rfl)
    subst hn
    have hd : decide (q.num < 0) = false := by rw [h0]; rfl
    rw [hd]
    clear hu hz h0 hx hd
    go_enter Tryz.func42, Tryz.ntmps42
    go_wp2_with fail
    go_ret
    exact ⟨by rw [hs.out]; rfl, below_alloc9 _ _⟩
  · have hn0 : ((n : Int) == 0) = false := by simp; omega
    by_cases h1 : q.num < 0
    · have hs : Hid (sgnQ q = -1) := Lib.hid (by unfold sgnQ; rw [if_pos h1])
      have hd : decide (q.num < 0) = true := by simpa using h1
      rw [hd]
      clear hu hz h0 h1 hx hd
      go_enter Tryz.func42, Tryz.ntmps42
      go_wp2_with fail
      go_ret
      exact ⟨by rw [hs.out]; rfl, below_alloc9 _ _⟩
    · have hs : Hid (sgnQ q = 1) := Lib.hid (by unfold sgnQ; rw [if_neg h1, if_neg h0])
      have hd : decide (q.num < 0) = false := by simpa using h1
      rw [hd]
      clear hu hz h0 h1 hx hd
      go_enter Tryz.func42, Tryz.ntmps42
      go_wp2_with fail
      go_ret
      exact ⟨by rw [hs.out]; rfl, below_alloc9 _ _⟩

set_option maxRecDepth 100000 in
set_option maxHeartbeats 3200000 in
theorem opp_any (x : Value) (q : Rat) (w : World) (hx : QAt w x q) : Calls Tryz.prog 43 #[x] w (QPost (-q) w) := by
  obtain ⟨p, n, c, p2, n2, c2, rfl, hu, hv⟩ := hx.slices
  have hz := hu.zero_iff (n := n)
  have hpost : ∀ f W, f = decide ((-q).num < 0) → Below w.heap.size w W → QPost (-q) w (.returned (.agg #[.bool f, .slice p n c, .slice p2 n2 c2])) W := by
    rintro f W rfl hW
    refine ⟨_, rfl, ⟨_, _, rfl, ?_, ?_⟩, hW⟩
    · rw [Rat.neg_num, Int.natAbs_neg]; exact hu.below hW
    · rw [Rat.neg_den]; exact hv.imp (·.below hW) fun h => ⟨h.1.below hW, h.2⟩
  have Hpost := Lib.hid hpost
  have hW : ∀ o1 o2, Hid (Below w.heap.size w ((w.alloc o1).alloc o2)) := fun o1 o2 => Lib.hid ((below_alloc9 w o1).trans ((below_alloc9 _ o2).mono (below_alloc9 w o1).size))
  by_cases h1 : q.num < 0
  · have hd : decide (q.num < 0) = true := by simpa using h1
    have hf : Hid (false = decide ((-q).num < 0)) := Lib.hid (by rw [Rat.neg_num]; symm; simp; omega)
    rw [hd]
    clear hu hv hz hx hpost h1 hd
    go_enter Tryz.func43, Tryz.ntmps43
    go_wp2_with fail
    refine bodyPost_ret (v := .agg #[.bool false, .slice p n c, .slice p2 n2 c2]) (by simp [results, Tryz.results43, go_sem]) rfl ?_
    exact Hpost.out _ _ hf.out (hW _ _).out
  · have hd : decide (q.num < 0) = false := by simpa using h1
    rw [hd]
    by_cases h0 : q.num = 0
    · have hn : n = 0 := hz.2 (by rw [h0]; rfl)
      subst hn
      have hf : Hid (false = decide ((-q).num < 0)) := Lib.hid (by rw [Rat.neg_num, h0]; rfl)
      clear hu hv hz hx hpost h1 h0 hd
      go_enter Tryz.func43, Tryz.ntmps43
      go_wp2_with fail
      refine bodyPost_ret (v := .agg #[.bool false, .slice p 0 c, .slice p2 n2 c2]) (by simp [results, Tryz.results43, go_sem]) rfl ?_
      exact Hpost.out _ _ hf.out (hW _ _).out
    · have hn0 : (0 : Int) < n := by omega
      have hf : Hid (true = decide ((-q).num < 0)) := Lib.hid (by rw [Rat.neg_num]; symm; simp; omega)
      clear hu hv hz hx hpost h1 h0 hd
      go_enter Tryz.func43, Tryz.ntmps43
      go_wp2_with fail
      refine bodyPost_ret (v := .agg #[.bool true, .slice p n c, .slice p2 n2 c2]) (by simp [results, Tryz.results43, go_sem]; omega) rfl ?_
      exact Hpost.out _ _ hf.out (hW _ _).out

/-- The exact text of IntQ: its numerator. -/
theorem ratv_int (n : Int) : ratv (decide (n < 0)) n.natAbs 1 = (n : Rat) := by
  have h := ratv_self (n : Rat)
  rwa [Rat.num_intCast, Rat.den_intCast] at h

set_option maxRecDepth 100000 in
set_option maxHeartbeats 3200000 in
theorem intq_any (z : Int) (w : World) (h1 : -9223372036854775808 ≤ z) (h2 : z ≤ 9223372036854775807) : Calls Tryz.prog 81 #[.int .i64 z] w (QPost (z : Rat) w) := by
  have hres := Lib.hid (Resa.start w)
  have hq := Lib.hid (ratv_int z)
  have hno : ∀ W, Hid (Calls Tryz.prog 78 #[.int .u64 ((z.natAbs : Nat) : Int)] W (Post9 z.natAbs W)) := fun W => Lib.hid (natOf_any _ W (by omega))
  have hone : ∀ W, Hid (Calls Tryz.prog 97 #[] W (Post9 1 W)) := fun W => Lib.hid (one_any W)
  have hmk : ∀ W u v, Nat9 W u z.natAbs → Nat9 W v 1 → Hid (Calls Tryz.prog 98 #[.bool (decide (z < 0)), u, v] W (QPost (z : Rat) W)) := fun W u v hu hv => Lib.hid (by
    have h := make_any (decide (z < 0)) u v z.natAbs 1 3 W (by omega) (by rw [B9_eq]; omega) (by rw [B9_eq]; omega) hu hv
    rw [hq.out] at h; exact h)
  by_cases hz : z < 0
  · obtain ⟨m, hm⟩ : ∃ m : Nat, z = -(m : Int) - 1 := ⟨(-z - 1).toNat, by omega⟩
    have hab : z.natAbs = m + 1 := by omega
    have hd : decide (z < 0) = true := by simpa using hz
    rw [hab] at hno
    rw [hd] at hmk
    rw [hab] at hmk
    have hm2 : (m : Int) ≤ 9223372036854775807 := by omega
    have hmz : -(z + 1) = (m : Int) := by omega
    have hm3 : ((m + 1 : Nat) : Int) = (m : Int) + 1 := by omega
    rw [hm3] at hno
    clear hq
    go_enter Tryz.func81, Tryz.ntmps81
    go_wp2_with fail
    refine (hno _).out.mono ?_
    rintro e w1 ⟨v1, rfl, hv1, hb1, -⟩
    obtain ⟨p1, n1, c1, rfl⟩ := hv1.slice
    have hr1 := Lib.hid (hres.out.next hb1)
    have Hv1 := Lib.hid hv1
    clear hv1 hb1
    go_wp2_with fail
    refine (hone _).out.mono ?_
    rintro e w2 ⟨v2, rfl, hv2, hb2, -⟩
    obtain ⟨p2, n2, c2, rfl⟩ := hv2.slice
    have hr2 := Lib.hid (hr1.out.next hb2)
    have hm2' := hmk w2 _ _ (Hv1.out.below hb2) hv2
    clear hv2 hb2
    go_wp2_with fail
    refine hm2'.out.mono ?_
    rintro e w3 ⟨x3, rfl, hx3, hb3⟩
    obtain ⟨p3, n3, c3, p4, n4, c4, rfl, hu3, hv3⟩ := hx3.slices
    have hr3 := Lib.hid (hr2.out.next hb3)
    obtain ⟨z0, z1, z2, l0, l1, l2, f0, f1, f2⟩ := hr3.out.slots
    obtain ⟨sb, hsb⟩ : ∃ sb, Hid (sb = decide ((z : Rat).num < 0)) := ⟨_, Lib.hid rfl⟩
    rw [← hsb.out]
    have q1 := Lib.hid (hr3.out.nat3 (Nat.le_refl _) hu3 sb p3 p4 n3 c3 n4 c4)
    have q2 := Lib.hid (hv3.imp (fun h => hr3.out.nat3 (Nat.le_refl _) h sb p3 p4 n3 c3 n4 c4) fun h => And.intro (hr3.out.nat3 (Nat.le_refl _) h.1 sb p3 p4 n3 c3 n4 c4) h.2)
    have q3 := Lib.hid (hr3.out.put3 (Nat.le_refl _) sb p3 p4 n3 c3 n4 c4).below
    clear hu3 hv3 hb3 hm2' hx3
    go_wp2_with fail
    refine bodyPost_ret (v := .agg #[.bool sb, .slice p3 n3 c3, .slice p4 n4 c4]) (by simp [results, Tryz.results81, go_sem, l0, l1, l2]) rfl ?_
    exact ⟨_, rfl, ⟨_, _, by rw [hsb.out], q1.out, q2.out⟩, q3.out⟩
  · obtain ⟨m, rfl⟩ : ∃ m : Nat, z = (m : Int) := ⟨z.toNat, by omega⟩
    have hd : decide ((m : Int) < 0) = false := by simp
    rw [hd] at hmk
    have hab : ((m : Int)).natAbs = m := by omega
    rw [hab] at hno hmk
    clear hq
    go_enter Tryz.func81, Tryz.ntmps81
    go_wp2_with fail
    refine (hno _).out.mono ?_
    rintro e w1 ⟨v1, rfl, hv1, hb1, -⟩
    obtain ⟨p1, n1, c1, rfl⟩ := hv1.slice
    have hr1 := Lib.hid (hres.out.next hb1)
    have Hv1 := Lib.hid hv1
    clear hv1 hb1
    go_wp2_with fail
    refine (hone _).out.mono ?_
    rintro e w2 ⟨v2, rfl, hv2, hb2, -⟩
    obtain ⟨p2, n2, c2, rfl⟩ := hv2.slice
    have hr2 := Lib.hid (hr1.out.next hb2)
    have hm2' := hmk w2 _ _ (Hv1.out.below hb2) hv2
    clear hv2 hb2
    go_wp2_with fail
    refine hm2'.out.mono ?_
    rintro e w3 ⟨x3, rfl, hx3, hb3⟩
    obtain ⟨p3, n3, c3, p4, n4, c4, rfl, hu3, hv3⟩ := hx3.slices
    have hr3 := Lib.hid (hr2.out.next hb3)
    obtain ⟨z0, z1, z2, l0, l1, l2, f0, f1, f2⟩ := hr3.out.slots
    obtain ⟨sb, hsb⟩ : ∃ sb, Hid (sb = decide (((m : Int) : Rat).num < 0)) := ⟨_, Lib.hid rfl⟩
    rw [← hsb.out]
    have q1 := Lib.hid (hr3.out.nat3 (Nat.le_refl _) hu3 sb p3 p4 n3 c3 n4 c4)
    have q2 := Lib.hid (hv3.imp (fun h => hr3.out.nat3 (Nat.le_refl _) h sb p3 p4 n3 c3 n4 c4) fun h => And.intro (hr3.out.nat3 (Nat.le_refl _) h.1 sb p3 p4 n3 c3 n4 c4) h.2)
    have q3 := Lib.hid (hr3.out.put3 (Nat.le_refl _) sb p3 p4 n3 c3 n4 c4).below
    clear hu3 hv3 hb3 hm2' hx3
    go_wp2_with fail
    refine bodyPost_ret (v := .agg #[.bool sb, .slice p3 n3 c3, .slice p4 n4 c4]) (by simp [results, Tryz.results81, go_sem, l0, l1, l2]) rfl ?_
    exact ⟨_, rfl, ⟨_, _, by rw [hsb.out], q1.out, q2.out⟩, q3.out⟩
end Go.Proofs.YtigicjakloiliaaGreatDoor
