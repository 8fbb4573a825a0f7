/- The document's Add, Sub, Mul on texts. -/
import Derived.Test.YtoegbjmoecbjdaaGreatDoorSA
set_option maxHeartbeats 3200000
set_option maxRecDepth 100000
namespace Go.Proofs.YtoegbjmoecbjdaaGreatDoor
open Go.RowKit Big
open Go.Lib
theorem two_any (s t : ByteArray) (w : World) : Calls Tryz.prog 77 #[.string s, .string t] w fun e w' => match num s.data.toList, num t.data.toList with
    | some a, some b => TwoPost a b true w e w'
    | _, _ => ∃ a b, TwoPost a b false w e w' := by
  have gs := fun W => get_any s W
  have gt := fun W => get_any t W
  have rd : ∀ (x : ByteArray) (W : World) (q : Rat), (∀ W, Calls Tryz.prog 38 #[.string x] W (GetPost none W)) → Calls Tryz.prog 38 #[.string x] W (FlagPost q false W) := fun x W q h => (h W).mono fun e w' ⟨q', b, p, n, c, p2, n2, c2, h1, h2, _⟩ => ⟨b, p, n, c, p2, n2, c2, h1, h2, fun h => by cases h⟩
  cases ha : num s.data.toList with
  | none =>
    rw [ha] at gs
    cases hb : num t.data.toList with
    | none => rw [hb] at gt; exact (two_false_false s t 0 0 w (fun W => hiD (rd s W 0 gs)) (fun W => hiD (rd t W 0 gt))).mono fun e w' h => ⟨_, _, h⟩
    | some b => rw [hb] at gt; exact (two_false_true s t 0 b w (fun W => hiD (rd s W 0 gs)) (fun W => hiD (gt W))).mono fun e w' h => ⟨_, _, h⟩
  | some a =>
    rw [ha] at gs
    cases hb : num t.data.toList with
    | none => rw [hb] at gt; exact (two_true_false s t a 0 w (fun W => hiD (gs W)) (fun W => hiD (rd t W 0 gt))).mono fun e w' h => ⟨_, _, h⟩
    | some b => rw [hb] at gt; exact two_true_true s t a b w (fun W => hiD (gs W)) (fun W => hiD (gt W))
theorem num_lt9 {l : List UInt8} {q : Rat} (h : num l = some q) : QLt 5 q := by
  have hs := num_short h
  unfold short at hs
  have hb : ∀ n : Nat, nDigits n ≤ 40 → n < B9 ^ 5 := by
    intro n hn
    have h1 := dval_lt (decDigits n) (dec_all n).1
    rw [(dec_all n).2, decDigits_length] at h1
    rw [B9_pow]
    exact Nat.lt_of_lt_of_le h1 (Nat.pow_le_pow_right (by omega) (by omega))
  exact ⟨hb _ hs.1, hb _ hs.2⟩
theorem lt_of_ratv {K : Nat} {q : Rat} {s : Bool} {a b : Nat} (h : ratv s a b = q) (ha : a < B9 ^ K) (hb : b < B9 ^ K) (hb0 : 0 < b) : QLt K q := by
  rw [← h, ← ratv_drop]
  exact ratv_lt _ ha hb hb0 (by intro h; simp at h; omega)
theorem QLt.mul {K L : Nat} {a b : Rat} (ha : QLt K a) (hb : QLt L b) : QLt (K + L) (a * b) :=
  lt_of_ratv (prod_parts a b) (pow9_mul ha.1 hb.1) (pow9_mul ha.2 hb.2) (Nat.mul_pos a.den_pos b.den_pos)
theorem QLt.quo {K L : Nat} {a b : Rat} (ha : QLt K a) (hb : QLt L b) : QLt (K + L) (a / b) := by
  by_cases h : b.num.natAbs = 0
  · have hb0 : b = 0 := Rat.num_eq_zero.1 (by omega)
    have e : a / b = 0 := by rw [hb0]; grind
    rw [e]
    exact ⟨Nat.pow_pos B9_pos, Nat.one_lt_pow (by have := ha.2; have := a.den_pos; intro h0; have hK : K = 0 := by omega
                                                  subst hK; rw [Nat.pow_zero] at *; omega) (by rw [B9_eq]; omega)⟩
  · exact lt_of_ratv (quot_parts a b) (pow9_mul ha.1 hb.2) (pow9_mul ha.2 hb.1) (Nat.mul_pos a.den_pos (by omega))
theorem plus_num (a b : Rat) : ∃ (s : Bool) (n : Nat), ratv s n (a.den * b.den) = a + b ∧ n ≤ a.num.natAbs * b.den + b.num.natAbs * a.den := by
  have e1 : ratv (decide (a.num < 0)) (a.num.natAbs * b.den) (a.den * b.den) = a := by rw [ratv_scale a.den_pos b.den_pos, ratv_self]
  have e2 : ratv (decide (b.num < 0)) (b.num.natAbs * a.den) (a.den * b.den) = b := by rw [Nat.mul_comm a.den b.den, ratv_scale b.den_pos a.den_pos, ratv_self]
  by_cases h : decide (a.num < 0) = decide (b.num < 0)
  · rw [← h] at e2
    exact ⟨_, _, by rw [ratv_plus, e1, e2], Nat.le_refl _⟩
  · by_cases hle : b.num.natAbs * a.den ≤ a.num.natAbs * b.den
    · exact ⟨_, _, by rw [ratv_minus h hle, e1, e2], by omega⟩
    · exact ⟨_, _, by rw [ratv_minus (fun e => h e.symm) (Nat.le_of_lt (Nat.lt_of_not_le hle)), e1, e2, Rat.add_comm], by omega⟩
theorem QLt.add {K L : Nat} {a b : Rat} (ha : QLt K a) (hb : QLt L b) : QLt (K + L + 1) (a + b) := by
  obtain ⟨s, n, h1, h2⟩ := plus_num a b
  have h3 := pow9_mul ha.1 hb.2
  have h4 := pow9_mul hb.1 ha.2
  rw [Nat.add_comm L K] at h4
  have h5 : B9 ^ (K + L + 1) = B9 ^ (K + L) * 1000000000 := by rw [Nat.pow_succ, B9_eq]
  exact lt_of_ratv h1 (by omega) (pow9_mono (pow9_mul ha.2 hb.2) (by omega)) (Nat.mul_pos a.den_pos b.den_pos)
theorem QLt.sub {K L : Nat} {a b : Rat} (ha : QLt K a) (hb : QLt L b) : QLt (K + L + 1) (a - b) := by
  rw [Rat.sub_eq_add_neg]; exact ha.add hb.neg
theorem radd_call (x z : Value) (a b : Rat) (W : World) (ha : QLt 5 a) (hb : QLt 5 b) (hx : QAt W x a) (hz : QAt W z b) : Calls Tryz.prog 80 #[x, z] W (QPost (a + b) W) := plus_any x z a b 5 5 W (by omega) ha hb hx hz
theorem rsub_call (x z : Value) (a b : Rat) (W : World) (ha : QLt 5 a) (hb : QLt 5 b) (hx : QAt W x a) (hz : QAt W z b) : Calls Tryz.prog 39 #[x, z] W (QPost (a - b) W) := minus_any x z a b 5 5 W (by omega) ha hb hx hz
theorem rmul_call (x z : Value) (a b : Rat) (W : World) (ha : QLt 5 a) (hb : QLt 5 b) (hx : QAt W x a) (hz : QAt W z b) : Calls Tryz.prog 45 #[x, z] W (QPost (a * b) W) := prod_any x z a b 5 5 W (by omega) ha hb hx hz
theorem radd_yes (s t : ByteArray) (a b : Rat) (w : World) (hab : QLt 5 a) (hbb : QLt 5 b) (htwo : ∀ W, Hid (Calls Tryz.prog 77 #[.string s, .string t] W (TwoPost a b true W))) : Calls Tryz.prog 27 #[.string s, .string t] w fun e w' => e = .returned (.string ⟨(txt (a + b)).toArray⟩) ∧ Below w.heap.size w w' := by
  obtain ⟨y, hy⟩ : ∃ y : ByteArray, Hid (y = ⟨(txt (a + b)).toArray⟩) := ⟨_, hiD rfl⟩
  rw [← hy.out]
  have hput : ∀ W x, QAt W x (a + b) → Hid (Calls Tryz.prog 73 #[x] W fun e w' => e = .returned (.string y) ∧ Below W.heap.size W w') := fun W x hx => hiD (by rw [hy.out]; exact put_any x _ (5 + 5 + 1) W (by omega) (hab.add hbb) hx)
  have hop : ∀ W x z, QAt W x a → QAt W z b → Hid (Calls Tryz.prog 80 #[x, z] W (QPost (a + b) W)) := fun W x z hx hz => hiD (radd_call x z a b W hab hbb hx hz)
  clear hab hbb
  go_enter Tryz.func27, Tryz.ntmps27
  go_wp2_with fail
  refine (htwo _).out.mono ?_
  rintro e w1 ⟨b1, p, n, c, p2, n2, c2, b2, q, m, d, q2, m2, d2, rfl, hb1, hq⟩
  obtain ⟨hx, hz⟩ := hq rfl
  have HB : Hid (∀ o1 o2, Below w.heap.size w ((w1.alloc o1).alloc o2)) := hiD fun o1 o2 => (hb1.alloc hb1.size o1).alloc (by have := hb1.size; simp; omega) o2
  have HX : Hid (∀ o1 o2, QAt ((w1.alloc o1).alloc o2) (.agg #[.bool b1, .slice p n c, .slice p2 n2 c2]) a ∧ QAt ((w1.alloc o1).alloc o2) (.agg #[.bool b2, .slice q m d, .slice q2 m2 d2]) b) := hiD fun o1 o2 => ⟨(hx.below (below_alloc9 _ _)).below (below_alloc9 _ _), (hz.below (below_alloc9 _ _)).below (below_alloc9 _ _)⟩
  clear hb1 hq hx hz
  go_wp2_with fail
  refine (hop _ _ _ (HX.out _ _).1 (HX.out _ _).2).out.mono ?_
  rintro e w3 ⟨x3, rfl, hx3, hb3⟩
  have hp3 := hput w3 x3 hx3
  obtain ⟨p3, n3, c3, p4, n4, c4, rfl, -, -⟩ := hx3.slices
  obtain ⟨sb, hsb⟩ : ∃ sb, Hid (sb = decide ((a + b).num < 0)) := ⟨_, hiD rfl⟩
  rw [← hsb.out] at hp3 ⊢
  have Hb3 := hiD ((HB.out _ _).trans (hb3.mono (HB.out _ _).size))
  clear hb3 hx3
  go_wp2_with fail
  refine hp3.out.mono ?_
  rintro e w4 ⟨rfl, hb4⟩
  have Hb4 := hiD (Hb3.out.trans (hb4.mono Hb3.out.size))
  clear hb4 hp3
  go_wp2_with fail
  go_ret
  exact ⟨rfl, Hb4.out⟩
theorem radd_no (s t : ByteArray) (a b : Rat) (w : World) (htwo : ∀ W, Hid (Calls Tryz.prog 77 #[.string s, .string t] W (TwoPost a b false W))) : Calls Tryz.prog 27 #[.string s, .string t] w fun e w' => e = .returned (.string ⟨#[]⟩) ∧ Below w.heap.size w w' := by
  go_enter Tryz.func27, Tryz.ntmps27
  go_wp2_with fail
  refine (htwo _).out.mono ?_
  rintro e w1 ⟨b1, p, n, c, p2, n2, c2, b2, q, m, d, q2, m2, d2, rfl, hb1, -⟩
  have HB : Hid (∀ o1 o2, Below w.heap.size w ((w1.alloc o1).alloc o2)) := hiD fun o1 o2 => (hb1.alloc hb1.size o1).alloc (by have := hb1.size; simp; omega) o2
  clear hb1
  go_wp2_with fail
  go_ret
  exact ⟨rfl, HB.out _ _⟩
theorem rsub_yes (s t : ByteArray) (a b : Rat) (w : World) (hab : QLt 5 a) (hbb : QLt 5 b) (htwo : ∀ W, Hid (Calls Tryz.prog 77 #[.string s, .string t] W (TwoPost a b true W))) : Calls Tryz.prog 29 #[.string s, .string t] w fun e w' => e = .returned (.string ⟨(txt (a - b)).toArray⟩) ∧ Below w.heap.size w w' := by
  obtain ⟨y, hy⟩ : ∃ y : ByteArray, Hid (y = ⟨(txt (a - b)).toArray⟩) := ⟨_, hiD rfl⟩
  rw [← hy.out]
  have hput : ∀ W x, QAt W x (a - b) → Hid (Calls Tryz.prog 73 #[x] W fun e w' => e = .returned (.string y) ∧ Below W.heap.size W w') := fun W x hx => hiD (by rw [hy.out]; exact put_any x _ (5 + 5 + 1) W (by omega) (hab.sub hbb) hx)
  have hop : ∀ W x z, QAt W x a → QAt W z b → Hid (Calls Tryz.prog 39 #[x, z] W (QPost (a - b) W)) := fun W x z hx hz => hiD (rsub_call x z a b W hab hbb hx hz)
  clear hab hbb
  go_enter Tryz.func29, Tryz.ntmps29
  go_wp2_with fail
  refine (htwo _).out.mono ?_
  rintro e w1 ⟨b1, p, n, c, p2, n2, c2, b2, q, m, d, q2, m2, d2, rfl, hb1, hq⟩
  obtain ⟨hx, hz⟩ := hq rfl
  have HB : Hid (∀ o1 o2, Below w.heap.size w ((w1.alloc o1).alloc o2)) := hiD fun o1 o2 => (hb1.alloc hb1.size o1).alloc (by have := hb1.size; simp; omega) o2
  have HX : Hid (∀ o1 o2, QAt ((w1.alloc o1).alloc o2) (.agg #[.bool b1, .slice p n c, .slice p2 n2 c2]) a ∧ QAt ((w1.alloc o1).alloc o2) (.agg #[.bool b2, .slice q m d, .slice q2 m2 d2]) b) := hiD fun o1 o2 => ⟨(hx.below (below_alloc9 _ _)).below (below_alloc9 _ _), (hz.below (below_alloc9 _ _)).below (below_alloc9 _ _)⟩
  clear hb1 hq hx hz
  go_wp2_with fail
  refine (hop _ _ _ (HX.out _ _).1 (HX.out _ _).2).out.mono ?_
  rintro e w3 ⟨x3, rfl, hx3, hb3⟩
  have hp3 := hput w3 x3 hx3
  obtain ⟨p3, n3, c3, p4, n4, c4, rfl, -, -⟩ := hx3.slices
  obtain ⟨sb, hsb⟩ : ∃ sb, Hid (sb = decide ((a - b).num < 0)) := ⟨_, hiD rfl⟩
  rw [← hsb.out] at hp3 ⊢
  have Hb3 := hiD ((HB.out _ _).trans (hb3.mono (HB.out _ _).size))
  clear hb3 hx3
  go_wp2_with fail
  refine hp3.out.mono ?_
  rintro e w4 ⟨rfl, hb4⟩
  have Hb4 := hiD (Hb3.out.trans (hb4.mono Hb3.out.size))
  clear hb4 hp3
  go_wp2_with fail
  go_ret
  exact ⟨rfl, Hb4.out⟩
theorem rsub_no (s t : ByteArray) (a b : Rat) (w : World) (htwo : ∀ W, Hid (Calls Tryz.prog 77 #[.string s, .string t] W (TwoPost a b false W))) : Calls Tryz.prog 29 #[.string s, .string t] w fun e w' => e = .returned (.string ⟨#[]⟩) ∧ Below w.heap.size w w' := by
  go_enter Tryz.func29, Tryz.ntmps29
  go_wp2_with fail
  refine (htwo _).out.mono ?_
  rintro e w1 ⟨b1, p, n, c, p2, n2, c2, b2, q, m, d, q2, m2, d2, rfl, hb1, -⟩
  have HB : Hid (∀ o1 o2, Below w.heap.size w ((w1.alloc o1).alloc o2)) := hiD fun o1 o2 => (hb1.alloc hb1.size o1).alloc (by have := hb1.size; simp; omega) o2
  clear hb1
  go_wp2_with fail
  go_ret
  exact ⟨rfl, HB.out _ _⟩
theorem rmul_yes (s t : ByteArray) (a b : Rat) (w : World) (hab : QLt 5 a) (hbb : QLt 5 b) (htwo : ∀ W, Hid (Calls Tryz.prog 77 #[.string s, .string t] W (TwoPost a b true W))) : Calls Tryz.prog 31 #[.string s, .string t] w fun e w' => e = .returned (.string ⟨(txt (a * b)).toArray⟩) ∧ Below w.heap.size w w' := by
  obtain ⟨y, hy⟩ : ∃ y : ByteArray, Hid (y = ⟨(txt (a * b)).toArray⟩) := ⟨_, hiD rfl⟩
  rw [← hy.out]
  have hput : ∀ W x, QAt W x (a * b) → Hid (Calls Tryz.prog 73 #[x] W fun e w' => e = .returned (.string y) ∧ Below W.heap.size W w') := fun W x hx => hiD (by rw [hy.out]; exact put_any x _ (5 + 5) W (by omega) (hab.mul hbb) hx)
  have hop : ∀ W x z, QAt W x a → QAt W z b → Hid (Calls Tryz.prog 45 #[x, z] W (QPost (a * b) W)) := fun W x z hx hz => hiD (rmul_call x z a b W hab hbb hx hz)
  clear hab hbb
  go_enter Tryz.func31, Tryz.ntmps31
  go_wp2_with fail
  refine (htwo _).out.mono ?_
  rintro e w1 ⟨b1, p, n, c, p2, n2, c2, b2, q, m, d, q2, m2, d2, rfl, hb1, hq⟩
  obtain ⟨hx, hz⟩ := hq rfl
  have HB : Hid (∀ o1 o2, Below w.heap.size w ((w1.alloc o1).alloc o2)) := hiD fun o1 o2 => (hb1.alloc hb1.size o1).alloc (by have := hb1.size; simp; omega) o2
  have HX : Hid (∀ o1 o2, QAt ((w1.alloc o1).alloc o2) (.agg #[.bool b1, .slice p n c, .slice p2 n2 c2]) a ∧ QAt ((w1.alloc o1).alloc o2) (.agg #[.bool b2, .slice q m d, .slice q2 m2 d2]) b) := hiD fun o1 o2 => ⟨(hx.below (below_alloc9 _ _)).below (below_alloc9 _ _), (hz.below (below_alloc9 _ _)).below (below_alloc9 _ _)⟩
  clear hb1 hq hx hz
  go_wp2_with fail
  refine (hop _ _ _ (HX.out _ _).1 (HX.out _ _).2).out.mono ?_
  rintro e w3 ⟨x3, rfl, hx3, hb3⟩
  have hp3 := hput w3 x3 hx3
  obtain ⟨p3, n3, c3, p4, n4, c4, rfl, -, -⟩ := hx3.slices
  obtain ⟨sb, hsb⟩ : ∃ sb, Hid (sb = decide ((a * b).num < 0)) := ⟨_, hiD rfl⟩
  rw [← hsb.out] at hp3 ⊢
  have Hb3 := hiD ((HB.out _ _).trans (hb3.mono (HB.out _ _).size))
  clear hb3 hx3
  go_wp2_with fail
  refine hp3.out.mono ?_
  rintro e w4 ⟨rfl, hb4⟩
  have Hb4 := hiD (Hb3.out.trans (hb4.mono Hb3.out.size))
  clear hb4 hp3
  go_wp2_with fail
  go_ret
  exact ⟨rfl, Hb4.out⟩
theorem rmul_no (s t : ByteArray) (a b : Rat) (w : World) (htwo : ∀ W, Hid (Calls Tryz.prog 77 #[.string s, .string t] W (TwoPost a b false W))) : Calls Tryz.prog 31 #[.string s, .string t] w fun e w' => e = .returned (.string ⟨#[]⟩) ∧ Below w.heap.size w w' := by
  go_enter Tryz.func31, Tryz.ntmps31
  go_wp2_with fail
  refine (htwo _).out.mono ?_
  rintro e w1 ⟨b1, p, n, c, p2, n2, c2, b2, q, m, d, q2, m2, d2, rfl, hb1, -⟩
  have HB : Hid (∀ o1 o2, Below w.heap.size w ((w1.alloc o1).alloc o2)) := hiD fun o1 o2 => (hb1.alloc hb1.size o1).alloc (by have := hb1.size; simp; omega) o2
  clear hb1
  go_wp2_with fail
  go_ret
  exact ⟨rfl, HB.out _ _⟩
end Go.Proofs.YtoegbjmoecbjdaaGreatDoor
