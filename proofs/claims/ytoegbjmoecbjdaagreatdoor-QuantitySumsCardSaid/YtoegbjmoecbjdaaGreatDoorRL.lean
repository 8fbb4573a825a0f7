/- The document's Make, Sgn, Opp, IntQ, Whole. -/
import Derived.Test.YtoegbjmoecbjdaaGreatDoorRJ
import Derived.Deep.RegionHeld3
import Derived.Deep.RegionWith
set_option maxHeartbeats 3200000
set_option maxRecDepth 100000
namespace Go.Proofs.YtoegbjmoecbjdaaGreatDoor
open Go.RowKit Big
theorem QAt.zero (w : World) : QAt w (.agg #[.bool false, .slice none 0 0, .slice none 0 0]) 0 := ⟨_, _, rfl, Nat9.zero w, .inr ⟨Nat9.zero w, rfl⟩⟩
theorem make_zero (s : Bool) (p q : Option Addr) (n c m d : Nat) (w : World) (h : n = 0 ∨ m = 0) : Calls Tryz.prog 91 #[.bool s, .slice p n c, .slice q m d] w (QPost 0 w) := by
  have hres := hiD (Resa.start w)
  by_cases hn : n = 0
  · subst hn
    go_enter Tryz.func91, Tryz.ntmps91
    go_wp2_with fail
    refine bodyPost_ret (v := .agg #[.bool false, .slice none 0 0, .slice none 0 0]) (by simp [results, Tryz.results91, go_sem]) rfl ?_
    exact ⟨_, rfl, QAt.zero _, hres.out.below⟩
  · obtain rfl : m = 0 := by omega
    have hn0 : ((n : Int) == 0) = false := by simp; omega
    go_enter Tryz.func91, Tryz.ntmps91
    go_wp2_with fail
    refine bodyPost_ret (v := .agg #[.bool false, .slice none 0 0, .slice none 0 0]) (by simp [results, Tryz.results91, go_sem]) rfl ?_
    exact ⟨_, rfl, QAt.zero _, hres.out.below⟩
theorem make_pos (s : Bool) (u v : Value) (a b K : Nat) (w : World) (hK : K ≤ 900000) (ha0 : 0 < a) (hb0 : 0 < b) (ha : a < B9 ^ K) (hb : b < B9 ^ K) (hu : Nat9 w u a) (hv : Nat9 w v b) : Calls Tryz.prog 91 #[.bool s, u, v] w (QPost (ratv s a b) w) := by
  obtain ⟨p, n, c, rfl⟩ := hu.slice
  obtain ⟨q, m, d, rfl⟩ := hv.slice
  have hn0 : ((n : Int) == 0) = false := by have := hu.zero_iff (n := n); simp; omega
  have hm0 : ((m : Int) == 0) = false := by have := hv.zero_iff (n := m); simp; omega
  have hres := hiD (Resa.start w)
  obtain ⟨g, hg⟩ : ∃ g, Hid (g = Nat.gcd a b) := ⟨_, hiD rfl⟩
  have hg0 : Hid (0 < g ∧ g < B9 ^ K) := hiD (by rw [hg.out]; exact ⟨Nat.gcd_pos_of_pos_left _ ha0, Nat.lt_of_le_of_lt (Nat.gcd_le_left _ ha0) ha⟩)
  have hgcd : ∀ W, Below w.heap.size w W → Hid (Calls Tryz.prog 137 #[.slice p n c, .slice q m d] W fun e w' => ∃ gv, e = .returned gv ∧ Nat9 w' gv g ∧ Below W.heap.size W w') := fun W hW => hiD (by
    rw [hg.out]; exact natGcd_nat _ _ a b K W hK ha hb (hu.below hW) (hv.below hW))
  have hd1 : ∀ W gv, Below w.heap.size w W → Nat9 W gv g → Hid (Calls Tryz.prog 136 #[.slice p n c, gv] W (DivPost9 a g W)) := fun W gv hW h => hiD (natDiv_nat _ _ a g K W hK ha hg0.out.2 hg0.out.1 (hu.below hW) h)
  have hd2 : ∀ W gv, Below w.heap.size w W → Nat9 W gv g → Hid (Calls Tryz.prog 136 #[.slice q m d, gv] W (DivPost9 b g W)) := fun W gv hW h => hiD (natDiv_nat _ _ b g K W hK hb hg0.out.2 hg0.out.1 (hv.below hW) h)
  have hq : Hid (decide ((ratv s a b).num < 0) = s ∧ (ratv s a b).num.natAbs = a / g ∧ (ratv s a b).den = b / g) := hiD (by rw [hg.out]; exact ratv_num hb0 (fun _ => ha0))
  clear hu hv ha hb ha0 hb0
  go_enter Tryz.func91, Tryz.ntmps91
  go_wp2_with fail
  refine (hgcd _ hres.out.below).out.mono ?_
  rintro e w1 ⟨gv, rfl, hgv, hb1⟩
  obtain ⟨pg, ng, cg, rfl⟩ := hgv.slice
  have hr1 := hiD (hres.out.next hb1)
  have h1 := hd1 w1 _ hr1.out.below hgv
  have Hgv := hiD hgv
  clear hgv hb1 hgcd hd1
  go_wp2_with fail
  refine h1.out.mono ?_
  rintro e w2 ⟨v2, r2, rfl, hv2, hr, hb2⟩
  obtain ⟨p2, n2, c2, rfl⟩ := hv2.slice
  obtain ⟨p3, n3, c3, rfl⟩ := hr.slice
  have hr2 := hiD (hr1.out.next hb2)
  have h2 := hd2 w2 _ hr2.out.below (Hgv.out.below hb2)
  have Hv2 := hiD hv2
  clear hv2 hr hb2 h1 hd2
  go_wp2_with fail
  refine h2.out.mono ?_
  rintro e w3 ⟨v4, r4, rfl, hv4, hr, hb3⟩
  obtain ⟨p4, n4, c4, rfl⟩ := hv4.slice
  obtain ⟨p5, n5, c5, rfl⟩ := hr.slice
  have hr3 := hiD (hr2.out.next hb3)
  obtain ⟨z0, z1, z2, l0, l1, l2, f0, f1, f2⟩ := hr3.out.slots
  have q1 := hiD (hr3.out.nat3 (Nat.le_refl _) (Hv2.out.below hb3) s p2 p4 n2 c2 n4 c4)
  have q2 := hiD (hr3.out.nat3 (Nat.le_refl _) hv4 s p2 p4 n2 c2 n4 c4)
  have q3 := hiD (hr3.out.put3 (Nat.le_refl _) s p2 p4 n2 c2 n4 c4).below
  clear hv4 hr hb3 h2
  go_wp2_with fail
  refine bodyPost_ret (v := .agg #[.bool s, .slice p2 n2 c2, .slice p4 n4 c4]) (by simp [results, Tryz.results91, go_sem, l0, l1, l2]) rfl ?_
  exact ⟨_, rfl, ⟨_, _, by rw [hq.out.1], by rw [hq.out.2.1]; exact q1.out, .inl (by rw [hq.out.2.2]; exact q2.out)⟩, q3.out⟩
theorem make_any (s : Bool) (u v : Value) (a b K : Nat) (w : World) (hK : K ≤ 900000) (ha : a < B9 ^ K) (hb : b < B9 ^ K) (hu : Nat9 w u a) (hv : Nat9 w v b) : Calls Tryz.prog 91 #[.bool s, u, v] w (QPost (ratv s a b) w) := by
  by_cases ha0 : a = 0
  · obtain ⟨p, n, c, rfl⟩ := hu.slice
    obtain ⟨q, m, d, rfl⟩ := hv.slice
    rw [ha0, ratv_zero]
    exact make_zero s p q n c m d w (.inl (hu.zero_iff.2 ha0))
  · by_cases hb0 : b = 0
    · obtain ⟨p, n, c, rfl⟩ := hu.slice
      obtain ⟨q, m, d, rfl⟩ := hv.slice
      rw [hb0, ratv_den0]
      exact make_zero s p q n c m d w (.inr (hv.zero_iff.2 hb0))
    · exact make_pos s u v a b K w hK (by omega) (by omega) ha hb hu hv
end Go.Proofs.YtoegbjmoecbjdaaGreatDoor
namespace Go.Proofs.YtoegbjmoecbjdaaGreatDoor
open Go.RowKit Big
theorem QLt.mono {K L : Nat} {q : Rat} (h : QLt K q) (hK : K ≤ L) : QLt L q := ⟨pow9_mono h.1 hK, pow9_mono h.2 hK⟩
def QPostB (q : Rat) (sb : Bool) (w : World) (e : Ending) (w' : World) : Prop := ∃ p n c p2 n2 c2, e = .returned (.agg #[.bool sb, .slice p n c, .slice p2 n2 c2]) ∧ Nat9 w' (.slice p n c) q.num.natAbs ∧ (Nat9 w' (.slice p2 n2 c2) q.den ∨ (Nat9 w' (.slice p2 n2 c2) 0 ∧ q.den = 1)) ∧ Below w.heap.size w w'
theorem QPost.b {q : Rat} {sb : Bool} {w w' : World} {e : Ending} (h : QPost q w e w') (hs : sb = decide (q.num < 0)) : QPostB q sb w e w' := by
  obtain ⟨x, rfl, hx, hb⟩ := h
  obtain ⟨p, n, c, p2, n2, c2, rfl, h1, h2⟩ := hx.slices
  exact ⟨p, n, c, p2, n2, c2, by rw [hs], h1, h2, hb⟩
theorem Twa.fin {B : Nat} {s : Bool} {u1 v1 : Value} {t : Bool} {u2 v2 : Value} {w0 W : World} {q : Rat} {sb : Bool} {p p2 : Option Addr} {n c n2 c2 : Nat} (h : Twa B s u1 v1 t u2 v2 w0 W) (hB : w0.heap.size ≤ B) (hs : sb = decide (q.num < 0))
    (h1 : Nat9 W (.slice p n c) q.num.natAbs) (h2 : Nat9 W (.slice p2 n2 c2) q.den ∨ (Nat9 W (.slice p2 n2 c2) 0 ∧ q.den = 1)) :
    QPost q w0 (.returned (.agg #[.bool sb, .slice p n c, .slice p2 n2 c2])) (((W.setCell ⟨B + 1 + 1, 0, none⟩ (.bool sb)).setCell ⟨B + 1 + 1, 1, none⟩ (.slice p n c)).setCell ⟨B + 1 + 1, 2, none⟩ (.slice p2 n2 c2)) :=
  ⟨_, rfl, ⟨_, _, by rw [hs], h.nat3 hB h1 sb p p2 n c n2 c2, h2.imp (fun h2 => h.nat3 hB h2 sb p p2 n c n2 c2) fun h2 => ⟨h.nat3 hB h2.1 sb p p2 n c n2 c2, h2.2⟩⟩, (h.put3 hB sb p p2 n c n2 c2).below⟩
end Go.Proofs.YtoegbjmoecbjdaaGreatDoor
