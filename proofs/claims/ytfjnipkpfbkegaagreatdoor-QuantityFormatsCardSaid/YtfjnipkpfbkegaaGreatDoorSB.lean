/- The document's two. -/
import Derived.Test.YtfjnipkpfbkegaaGreatDoorRh
namespace Go.Proofs.YtfjnipkpfbkegaaGreatDoor
open Go.RowKit Big
open Go.Lib
theorem QAt.put3 {B : Nat} {w0 W : World} {x : Value} {r : Rat} (hq : QAt W x r) (h : Resa B w0 W) (hB : w0.heap.size ≤ B) (a : Bool) (p q : Option Addr) (n c m d : Nat) : QAt (((W.setCell ⟨B, 0, none⟩ (.bool a)).setCell ⟨B, 1, none⟩ (.slice p n c)).setCell ⟨B, 2, none⟩ (.slice q m d)) x r := by
  obtain ⟨u, v, rfl, hu, hv⟩ := hq
  exact ⟨u, v, rfl, h.nat3 hB hu a p q n c m d, hv.imp (fun h2 => h.nat3 hB h2 a p q n c m d) fun h2 => ⟨h.nat3 hB h2.1 a p q n c m d, h2.2⟩⟩
end Go.Proofs.YtfjnipkpfbkegaaGreatDoor
namespace Go.Proofs.YtfjnipkpfbkegaaGreatDoor
open Go.RowKit Big
open Go.Lib
theorem lt_of_ratv {K : Nat} {q : Rat} {s : Bool} {a b : Nat} (h : ratv s a b = q) (ha : a < B9 ^ K) (hb : b < B9 ^ K) (hb0 : 0 < b) : QLt K q := by
  rw [← h, ← ratv_drop]
  exact ratv_lt _ ha hb hb0 (by intro h; simp at h; omega)
theorem plus_num (a b : Rat) : ∃ (s : Bool) (n : Nat), ratv s n (a.den * b.den) = a + b ∧ n ≤ a.num.natAbs * b.den + b.num.natAbs * a.den := by
  have e1 : ratv (decide (a.num < 0)) (a.num.natAbs * b.den) (a.den * b.den) = a := by rw [ratv_scale a.den_pos b.den_pos, ratv_self]
  have e2 : ratv (decide (b.num < 0)) (b.num.natAbs * a.den) (a.den * b.den) = b := by rw [Nat.mul_comm a.den b.den, ratv_scale b.den_pos a.den_pos, ratv_self]
  by_cases h : decide (a.num < 0) = decide (b.num < 0)
  · rw [← h] at e2
    exact ⟨_, _, by rw [ratv_plus, e1, e2], Nat.le_refl _⟩
  · by_cases hle : b.num.natAbs * a.den ≤ a.num.natAbs * b.den
    · exact ⟨_, _, by rw [ratv_minus h hle, e1, e2], by omega⟩
    · exact ⟨_, _, by rw [ratv_minus (fun e => h e.symm) (Nat.le_of_lt (Nat.lt_of_not_le hle)), e1, e2, Rat.add_comm], by omega⟩
theorem QLt.add {K L : Nat} {a b : Rat} (ha : QLt K a) (hb : QLt L b) : QLt (K + L + 1) (a + b) := by
  obtain ⟨s, n, h1, h2⟩ := plus_num a b
  have h3 := pow9_mul ha.1 hb.2
  have h4 := pow9_mul hb.1 ha.2
  rw [Nat.add_comm L K] at h4
  have h5 : B9 ^ (K + L + 1) = B9 ^ (K + L) * 1000000000 := by rw [Nat.pow_succ, B9_eq]
  exact lt_of_ratv h1 (by omega) (pow9_mono (pow9_mul ha.2 hb.2) (by omega)) (Nat.mul_pos a.den_pos b.den_pos)
theorem QLt.sub {K L : Nat} {a b : Rat} (ha : QLt K a) (hb : QLt L b) : QLt (K + L + 1) (a - b) := by
  rw [Rat.sub_eq_add_neg]; exact ha.add hb.neg
end Go.Proofs.YtfjnipkpfbkegaaGreatDoor
