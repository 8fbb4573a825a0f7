/- Differences and sums of groups of bytes: each undoes the other. -/
import Derived.Test.YtpbcdmefngbjjaaGreatDoorCK
import Derived.Test.YtpbcdmefngbjjaaGreatDoorCE
namespace Go.Proofs.YtpbcdmefngbjjaaGreatDoor
abbrev W64 : Nat := 18446744073709551616
theorem nb_from (l : List UInt8) : ∀ x, l.foldl (fun x (c : UInt8) => x * 256 + c.toNat) x = x * 256 ^ l.length + nb l := by
  induction l with
  | nil => intro x; simp [nb]
  | cons c l ih =>
    intro x
    have h0 : nb (c :: l) = (0 * 256 + c.toNat) * 256 ^ l.length + nb l := by show List.foldl _ _ (c :: l) = _; rw [List.foldl_cons, ih]
    rw [List.foldl_cons, ih, h0, List.length_cons, Nat.pow_succ, Nat.add_mul, Nat.zero_mul, Nat.zero_add, Nat.mul_comm (256 ^ l.length) 256, ← Nat.mul_assoc, Nat.add_assoc]
theorem nb_cons (c : UInt8) (l : List UInt8) : nb (c :: l) = c.toNat * 256 ^ l.length + nb l := by
  show List.foldl _ _ (c :: l) = _
  rw [List.foldl_cons, nb_from, Nat.zero_mul, Nat.zero_add]
theorem nb_be (x : Nat) : ∀ n, nb (be n x) = x % 256 ^ n
  | 0 => by rw [be, Nat.pow_zero, Nat.mod_one]; rfl
  | n + 1 => by
    rw [be, nb_cons, be_length, nb_be x n, show (UInt8.ofNat (x / 256 ^ n % 256)).toNat = x / 256 ^ n % 256 by rw [UInt8.toNat_ofNat']; exact Nat.mod_mod _ _, @Nat.pow_succ 256 n, @Nat.mod_mul (256 ^ n) 256 x, Nat.mul_comm, Nat.add_comm]
theorem be_congr {x y : Nat} : ∀ n, x % 256 ^ n = y % 256 ^ n → be n x = be n y
  | 0, _ => rfl
  | n + 1, h => by
    rw [Nat.pow_succ] at h
    have h1 : x / 256 ^ n % 256 = y / 256 ^ n % 256 := by rw [← Nat.mod_mul_right_div_self, ← Nat.mod_mul_right_div_self, h]
    have h2 : x % 256 ^ n = y % 256 ^ n := by rw [← Nat.mod_mul_right_mod x (256 ^ n) 256, ← Nat.mod_mul_right_mod y (256 ^ n) 256, h]
    rw [be, be, h1, be_congr n h2]
theorem be_nb : ∀ (n : Nat) (l : List UInt8), l.length = n → be n (nb l) = l
  | 0, l, h => by rw [List.eq_nil_of_length_eq_zero h]; rfl
  | n + 1, [], h => by cases h
  | n + 1, c :: l, h => by
    have hl : l.length = n := by simpa using h
    have hp : 0 < 256 ^ n := Nat.pow_pos (by decide)
    have hlt : nb l < 256 ^ n := by have := nb_lt l; rwa [hl] at this
    have e1 : nb (c :: l) / 256 ^ n % 256 = c.toNat := by
      rw [nb_cons, hl, Nat.mul_comm, Nat.mul_add_div hp, Nat.div_eq_of_lt hlt, Nat.add_zero]
      exact Nat.mod_eq_of_lt c.toNat_lt
    have e2 : be n (nb (c :: l)) = be n (nb l) := be_congr n (by rw [nb_cons, hl, Nat.mul_comm, Nat.mul_add_mod])
    rw [be, e1, e2, be_nb n l hl, UInt8.ofNat_toNat]
theorem dvd64 {n : Nat} (h : n ≤ 8) : 256 ^ n ∣ W64 := by
  have : W64 = 256 ^ n * 256 ^ (8 - n) := by rw [← Nat.pow_add, show n + (8 - n) = 8 by omega]
  exact ⟨_, this⟩
theorem mod_of_dvd {M x y : Nat} (h : (M : Int) ∣ (x : Int) - (y : Int)) : x % M = y % M := by
  have h1 : (x : Int) % (M : Int) = (y : Int) % (M : Int) := Int.emod_eq_emod_iff_emod_sub_eq_zero.2 (Int.emod_eq_zero_of_dvd h)
  have h2 : ((x % M : Nat) : Int) = ((y % M : Nat) : Int) := by rw [Int.natCast_emod, Int.natCast_emod]; exact h1
  exact Int.ofNat.inj h2
theorem dvd_of_mod {M x y : Nat} (h : x % M = y % M) : (M : Int) ∣ (x : Int) - (y : Int) := by
  refine Int.dvd_of_emod_eq_zero (Int.emod_eq_emod_iff_emod_sub_eq_zero.1 ?_)
  rw [← Int.natCast_emod, ← Int.natCast_emod, h]
theorem sum_diff {M s a g : Nat} (hM : M ∣ W64) (ha : a < W64) (h : s % M = a % M) : ((s + (g + W64 - a) % W64 % M) % W64) % M = g % M := by
  rw [Nat.mod_mod_of_dvd _ hM, Nat.add_mod, Nat.mod_mod, Nat.mod_mod_of_dvd _ hM, ← Nat.add_mod]
  refine mod_of_dvd ?_
  have h1 := dvd_of_mod h
  have h2 : (M : Int) ∣ (W64 : Int) := Int.natCast_dvd_natCast.2 hM
  have e : ((s + (g + W64 - a) : Nat) : Int) - (g : Int) = ((s : Int) - (a : Int)) + (W64 : Int) := by omega
  rw [e]
  exact Int.dvd_add h1 h2
theorem diff_sum {M s a x : Nat} (hM : M ∣ W64) (ha : a < W64) (h : s % M = a % M) : ((((s + x) % W64) % M + W64 - a) % W64) % M = x % M := by
  rw [Nat.mod_mod_of_dvd _ hM, Nat.mod_mod_of_dvd _ hM]
  refine mod_of_dvd ?_
  have h1 := dvd_of_mod h
  have h2 : (M : Int) ∣ (W64 : Int) := Int.natCast_dvd_natCast.2 hM
  have h3 : (M : Int) ∣ ((s + x : Nat) : Int) - (((s + x) % M : Nat) : Int) := dvd_of_mod (Nat.mod_mod _ _).symm
  have e : (((s + x) % M + W64 - a : Nat) : Int) - (x : Int) = ((s : Int) - (a : Int)) + (W64 : Int) - (((s + x : Nat) : Int) - (((s + x) % M : Nat) : Int)) := by omega
  rw [e]
  exact Int.dvd_sub (Int.dvd_add h1 h2) h3
/-- One step of Delta, and of what undoes it. -/
def dStep (a g : Nat) : Nat × Nat := ((g + W64 - a) % W64, g)
def sStep (a g : Nat) : Nat × Nat := ((a + g) % W64, (a + g) % W64)
/-- The bytes with the number of each of the first k groups replaced, from state a on. -/
def chR (st : Nat → Nat → Nat × Nat) (n : Nat) : Nat → Nat → List UInt8 → List UInt8
  | 0, _, l => l
  | k + 1, a, l => be n (st a (nb (l.take n))).1 ++ chR st n k (st a (nb (l.take n))).2 (l.drop n)
theorem chR_length (st : Nat → Nat → Nat × Nat) (n : Nat) : ∀ (k a : Nat) (l : List UInt8), k * n ≤ l.length → (chR st n k a l).length = l.length
  | 0, _, _, _ => rfl
  | k + 1, a, l, h => by
    rw [Nat.succ_mul] at h
    rw [chR, List.length_append, be_length, chR_length st n k _ _ (by rw [List.length_drop]; omega), List.length_drop]; omega
theorem take_be (n x : Nat) (R : List UInt8) : (be n x ++ R).take n = be n x := by
  rw [List.take_append_of_le_length (by rw [be_length]; exact Nat.le_refl _), List.take_of_length_le (by rw [be_length]; exact Nat.le_refl _)]
theorem drop_be (n x : Nat) (R : List UInt8) : (be n x ++ R).drop n = R := by
  have := List.drop_left (l₁ := be n x) (l₂ := R)
  rwa [be_length] at this
theorem s_d {n : Nat} (hn : n ≤ 8) : ∀ (k a s : Nat) (l : List UInt8), k * n ≤ l.length → a < W64 → s % 256 ^ n = a % 256 ^ n → chR sStep n k s (chR dStep n k a l) = l
  | 0, _, _, _, _, _, _ => rfl
  | k + 1, a, s, l, hl, ha, h => by
    rw [Nat.succ_mul] at hl
    have ht : (l.take n).length = n := by rw [List.length_take]; omega
    have hg : nb (l.take n) < W64 := nb_lt8 (by omega)
    have hm : ((s + (nb (l.take n) + W64 - a) % W64 % 256 ^ n) % W64) % 256 ^ n = nb (l.take n) % 256 ^ n := sum_diff (dvd64 hn) ha h
    rw [chR, chR, take_be, drop_be, nb_be]
    simp only [sStep, dStep]
    rw [s_d hn k _ _ _ (by rw [List.length_drop]; omega) hg hm, be_congr n hm, be_nb n _ ht, List.take_append_drop]
theorem d_s {n : Nat} (hn : n ≤ 8) : ∀ (k a s : Nat) (l : List UInt8), k * n ≤ l.length → a < W64 → s % 256 ^ n = a % 256 ^ n → chR dStep n k a (chR sStep n k s l) = l
  | 0, _, _, _, _, _, _ => rfl
  | k + 1, a, s, l, hl, ha, h => by
    rw [Nat.succ_mul] at hl
    have ht : (l.take n).length = n := by rw [List.length_take]; omega
    have hm := diff_sum (x := nb (l.take n)) (dvd64 hn) ha h
    rw [chR, chR, take_be, drop_be, nb_be]
    simp only [sStep, dStep]
    have hy : (s + nb (l.take n)) % W64 % 256 ^ n < W64 := Nat.lt_of_le_of_lt (Nat.mod_le _ _) (Nat.mod_lt _ (by decide))
    rw [d_s hn k _ _ _ (by rw [List.length_drop]; omega) hy (Nat.mod_mod _ _).symm, be_congr n hm, be_nb n _ ht, List.take_append_drop]
/-- Delta and what undoes it, as functions of lists. -/
def delL (l : List UInt8) (n : Nat) : List UInt8 := chR dStep n (l.length / n) 0 l
def undL (l : List UInt8) (n : Nat) : List UInt8 := chR sStep n (l.length / n) 0 l
theorem delL_length (l : List UInt8) {n : Nat} : (delL l n).length = l.length := chR_length _ _ _ _ _ (Nat.div_mul_le_self _ _)
theorem undL_length (l : List UInt8) {n : Nat} : (undL l n).length = l.length := chR_length _ _ _ _ _ (Nat.div_mul_le_self _ _)
theorem und_del (l : List UInt8) {n : Nat} (hn : n ≤ 8) : undL (delL l n) n = l := by
  unfold undL; rw [delL_length]; exact s_d hn _ 0 0 l (Nat.div_mul_le_self _ _) (by decide) rfl
theorem del_und (l : List UInt8) {n : Nat} (hn : n ≤ 8) : delL (undL l n) n = l := by
  unfold delL; rw [undL_length]; exact d_s hn _ 0 0 l (Nat.div_mul_le_self _ _) (by decide) rfl
end Go.Proofs.YtpbcdmefngbjjaaGreatDoor
