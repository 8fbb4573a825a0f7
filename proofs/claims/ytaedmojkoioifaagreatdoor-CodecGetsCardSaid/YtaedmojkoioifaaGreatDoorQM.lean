/- The document's two. -/
import Derived.Test.YtaedmojkoioifaaGreatDoorRh
namespace Go.Proofs.YtaedmojkoioifaaGreatDoor
open Go.RowKit Big
open Go.Lib
theorem QAt.put3 {B : Nat} {w0 W : World} {x : Value} {r : Rat} (hq : QAt W x r) (h : Resa B w0 W) (hB : w0.heap.size ≤ B) (a : Bool) (p q : Option Addr) (n c m d : Nat) : QAt (((W.setCell ⟨B, 0, none⟩ (.bool a)).setCell ⟨B, 1, none⟩ (.slice p n c)).setCell ⟨B, 2, none⟩ (.slice q m d)) x r := by
  obtain ⟨u, v, rfl, hu, hv⟩ := hq
  exact ⟨u, v, rfl, h.nat3 hB hu a p q n c m d, hv.imp (fun h2 => h.nat3 hB h2 a p q n c m d) fun h2 => ⟨h.nat3 hB h2.1 a p q n c m d, h2.2⟩⟩
end Go.Proofs.YtaedmojkoioifaaGreatDoor
namespace Go.Proofs.YtaedmojkoioifaaGreatDoor
open Go.RowKit Big
open Go.Lib
theorem num_lt9 {l : List UInt8} {q : Rat} (h : num l = some q) : QLt 5 q := by
  have hs := num_short h
  unfold short at hs
  have hb : ∀ n : Nat, nDigits n ≤ 40 → n < B9 ^ 5 := by
    intro n hn
    have h1 := dval_lt (decDigits n) (dec_all n).1
    rw [(dec_all n).2, decDigits_length] at h1
    rw [B9_pow]
    exact Nat.lt_of_lt_of_le h1 (Nat.pow_le_pow_right (by omega) (by omega))
  exact ⟨hb _ hs.1, hb _ hs.2⟩
theorem lt_of_ratv {K : Nat} {q : Rat} {s : Bool} {a b : Nat} (h : ratv s a b = q) (ha : a < B9 ^ K) (hb : b < B9 ^ K) (hb0 : 0 < b) : QLt K q := by
  rw [← h, ← ratv_drop]
  exact ratv_lt _ ha hb hb0 (by intro h; simp at h; omega)
theorem plus_num (a b : Rat) : ∃ (s : Bool) (n : Nat), ratv s n (a.den * b.den) = a + b ∧ n ≤ a.num.natAbs * b.den + b.num.natAbs * a.den := by
  have e1 : ratv (decide (a.num < 0)) (a.num.natAbs * b.den) (a.den * b.den) = a := by rw [ratv_scale a.den_pos b.den_pos, ratv_self]
  have e2 : ratv (decide (b.num < 0)) (b.num.natAbs * a.den) (a.den * b.den) = b := by rw [Nat.mul_comm a.den b.den, ratv_scale b.den_pos a.den_pos, ratv_self]
  by_cases h : decide (a.num < 0) = decide (b.num < 0)
  · rw [← h] at e2
    exact ⟨_, _, by rw [ratv_plus, e1, e2], Nat.le_refl _⟩
  · by_cases hle : b.num.natAbs * a.den ≤ a.num.natAbs * b.den
    · exact ⟨_, _, by rw [ratv_minus h hle, e1, e2], by omega⟩
    · exact ⟨_, _, by rw [ratv_minus (fun e => h e.symm) (Nat.le_of_lt (Nat.lt_of_not_le hle)), e1, e2, Rat.add_comm], by omega⟩
theorem QLt.add {K L : Nat} {a b : Rat} (ha : QLt K a) (hb : QLt L b) : QLt (K + L + 1) (a + b) := by
  obtain ⟨s, n, h1, h2⟩ := plus_num a b
  have h3 := pow9_mul ha.1 hb.2
  have h4 := pow9_mul hb.1 ha.2
  rw [Nat.add_comm L K] at h4
  have h5 : B9 ^ (K + L + 1) = B9 ^ (K + L) * 1000000000 := by rw [Nat.pow_succ, B9_eq]
  exact lt_of_ratv h1 (by omega) (pow9_mono (pow9_mul ha.2 hb.2) (by omega)) (Nat.mul_pos a.den_pos b.den_pos)
end Go.Proofs.YtaedmojkoioifaaGreatDoor
set_option maxHeartbeats 3200000
set_option maxRecDepth 100000
namespace Go.Proofs.YtaedmojkoioifaaGreatDoor
open Go.RowKit Big
open Go.Lib
theorem whole_any (x : Value) (q : Rat) (K : Nat) (w : World) (hK : K ≤ 900000) (hK1 : 1 ≤ K) (hq : QLt K q) (hx : QAt w x q) : Calls Tryz.prog 48 #[x] w fun e w' => e = .returned (.bool (decide (q.den = 1))) ∧ Below w.heap.size w w' := by
  have hden := hiD (fun W (hW : Below w.heap.size w W) => den_any x q W (hx.below hW))
  have hone := hiD (fun W => one_any W)
  have hcmp := hiD (fun W (u v : Value) (hu : Nat9 W u q.den) (hv : Nat9 W v 1) => natCmp_nat u v q.den 1 K W (by unfold most; omega) hq.2 (pow9_mono (K := 1) (by rw [Nat.pow_one, B9_eq]; omega) hK1) hu hv)
  have hres : Hid (((cmp3 q.den 1 == 0) : Bool) = decide (q.den = 1)) := hiD (by
    unfold cmp3
    by_cases h : q.den = 1
    · rw [h]; rfl
    · have := q.den_pos
      rw [if_neg (by omega), if_pos (by omega)]
      simp [h])
  obtain ⟨p, n, c, p2, n2, c2, rfl, -, -⟩ := hx.slices
  obtain ⟨s, hs⟩ : ∃ s, Hid (s = decide (q.num < 0)) := ⟨_, hiD rfl⟩
  rw [← hs.out] at hden ⊢
  obtain ⟨z, hz⟩ : ∃ z, Hid (z = cmp3 q.den 1) := ⟨_, hiD rfl⟩
  obtain ⟨r, hr⟩ : ∃ r, Hid (r = decide (q.den = 1)) := ⟨_, hiD rfl⟩
  rw [← hz.out, ← hr.out] at hres
  rw [← hr.out]
  clear hx hq
  go_enter Tryz.func48, Tryz.ntmps48
  go_wp2_with fail
  refine (hden.out _ (below_alloc9 _ _)).mono ?_
  rintro e w1 ⟨p3, n3, c3, rfl, hv3, hb1⟩
  have Hb1 := hiD ((below_alloc9 w _).trans (hb1.mono (below_alloc9 w _).size))
  have Hv3 := hiD hv3
  clear hb1 hv3
  go_wp2_with fail
  refine (hone.out _).mono ?_
  rintro e w2 ⟨v2, rfl, hv2, hb2, -⟩
  obtain ⟨p4, n4, c4, rfl⟩ := hv2.slice
  have Hb2 := hiD (Hb1.out.trans (hb2.mono Hb1.out.size))
  have hc2 := hiD (hcmp.out w2 _ _ (Hv3.out.below hb2) hv2)
  clear hb2 hv2
  go_wp2_with fail
  refine hc2.out.mono ?_
  rintro e w3 ⟨rfl, k, rfl⟩
  rw [← hz.out]
  go_wp2_with fail
  go_ret
  exact ⟨by rw [← hres.out]; rfl, Hb2.out.trans (below_drewN _ _ _)⟩
end Go.Proofs.YtaedmojkoioifaaGreatDoor
set_option maxHeartbeats 3200000
set_option maxRecDepth 100000
namespace Go.Proofs.YtaedmojkoioifaaGreatDoor
open Go.RowKit Big
open Go.Lib
theorem rvalid_any (s : ByteArray) (w : World) : Calls Tryz.prog 25 #[.string s] w fun e w' => e = .returned (.bool (num s.data.toList).isSome) ∧ Below w.heap.size w w' := by
  have hg := fun W => hiD (get_flag s _ rfl W)
  generalize (num s.data.toList).isSome = f at hg ⊢
  go_enter Tryz.func25, Tryz.ntmps25
  go_wp2_with fail
  refine (hg _).out.mono ?_
  rintro e w1 ⟨b1, p, n, c, p2, n2, c2, rfl, hb1, -⟩
  have HB : Hid (∀ o1, Below w.heap.size w (w1.alloc o1)) := hiD fun o1 => hb1.alloc hb1.size o1
  clear hb1
  go_wp2_with fail
  go_ret
  exact ⟨rfl, HB.out _⟩
end Go.Proofs.YtaedmojkoioifaaGreatDoor
