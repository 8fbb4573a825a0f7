/- The document's Add, Sub, Mul on texts. -/
import Derived.Test.YtigidchicloleaaGreatDoorY10
import Derived.Test.YtigidchicloleaaGreatDoorQA
import Derived.Test.YtigidchicloleaaGreatDoorY05
import Derived.Test.YtigidchicloleaaGreatDoorYSA
import Derived.WalkKit
import Derived.WalkSpells
import Derived.WalkLawsBesides
import Derived.Lib.Hide
import Derived.IntWalk
set_option maxHeartbeats 3200000
set_option maxRecDepth 100000
namespace Go.Proofs.YtigidchicloleaaGreatDoor
open Go.RowKit Big
open Go.Lib
theorem two_any (s t : ByteArray) (w : World) : Calls Tryz.prog 126 #[.string s, .string t] w fun e w' => match num s.data.toList, num t.data.toList with
    | some a, some b => TwoPost a b true w e w'
    | _, _ => ∃ a b, TwoPost a b false w e w' := by
  have gs := fun W => get_any s W
  have gt := fun W => get_any t W
  have rd : ∀ (x : ByteArray) (W : World) (q : Rat), (∀ W, Calls Tryz.prog 117 #[.string x] W (GetPost none W)) → Calls Tryz.prog 117 #[.string x] W (FlagPost q false W) := fun x W q h => (h W).mono fun e w' ⟨q', b, p, n, c, p2, n2, c2, h1, h2, _⟩ => ⟨b, p, n, c, p2, n2, c2, h1, h2, fun h => by cases h⟩
  cases ha : num s.data.toList with
  | none =>
    rw [ha] at gs
    cases hb : num t.data.toList with
    | none => rw [hb] at gt; exact (two_false_false s t 0 0 w (fun W => hiD (rd s W 0 gs)) (fun W => hiD (rd t W 0 gt))).mono fun e w' h => ⟨_, _, h⟩
    | some b => rw [hb] at gt; exact (two_false_true s t 0 b w (fun W => hiD (rd s W 0 gs)) (fun W => hiD (gt W))).mono fun e w' h => ⟨_, _, h⟩
  | some a =>
    rw [ha] at gs
    cases hb : num t.data.toList with
    | none => rw [hb] at gt; exact (two_true_false s t a 0 w (fun W => hiD (gs W)) (fun W => hiD (rd t W 0 gt))).mono fun e w' h => ⟨_, _, h⟩
    | some b => rw [hb] at gt; exact two_true_true s t a b w (fun W => hiD (gs W)) (fun W => hiD (gt W))
theorem num_lt9 {l : List UInt8} {q : Rat} (h : num l = some q) : QLt 5 q := by
  have hs := num_short h
  unfold short at hs
  have hb : ∀ n : Nat, nDigits n ≤ 40 → n < B9 ^ 5 := by
    intro n hn
    have h1 := dval_lt (decDigits n) (dec_all n).1
    rw [(dec_all n).2, decDigits_length] at h1
    rw [B9_pow]
    exact Nat.lt_of_lt_of_le h1 (Nat.pow_le_pow_right (by omega) (by omega))
  exact ⟨hb _ hs.1, hb _ hs.2⟩
theorem QLt.mul {K L : Nat} {a b : Rat} (ha : QLt K a) (hb : QLt L b) : QLt (K + L) (a * b) :=
  lt_of_ratv (prod_parts a b) (pow9_mul ha.1 hb.1) (pow9_mul ha.2 hb.2) (Nat.mul_pos a.den_pos b.den_pos)
theorem QLt.quo {K L : Nat} {a b : Rat} (ha : QLt K a) (hb : QLt L b) : QLt (K + L) (a / b) := by
  by_cases h : b.num.natAbs = 0
  · have hb0 : b = 0 := Rat.num_eq_zero.1 (by omega)
    have e : a / b = 0 := by rw [hb0]; grind
    rw [e]
    exact ⟨Nat.pow_pos B9_pos, Nat.one_lt_pow (by have := ha.2; have := a.den_pos; intro h0; have hK : K = 0 := by omega
                                                  subst hK; rw [Nat.pow_zero] at *; omega) (by rw [B9_eq]; omega)⟩
  · exact lt_of_ratv (quot_parts a b) (pow9_mul ha.1 hb.2) (pow9_mul ha.2 hb.1) (Nat.mul_pos a.den_pos (by omega))
theorem QLt.sub {K L : Nat} {a b : Rat} (ha : QLt K a) (hb : QLt L b) : QLt (K + L + 1) (a - b) := by
  rw [Rat.sub_eq_add_neg]; exact ha.add hb.neg
theorem radd_call (x z : Value) (a b : Rat) (W : World) (ha : QLt 5 a) (hb : QLt 5 b) (hx : QAt W x a) (hz : QAt W z b) : Calls Tryz.prog 128 #[x, z] W (QPost (a + b) W) := plus_any x z a b 5 5 W (by omega) ha hb hx hz
theorem rsub_call (x z : Value) (a b : Rat) (W : World) (ha : QLt 5 a) (hb : QLt 5 b) (hx : QAt W x a) (hz : QAt W z b) : Calls Tryz.prog 129 #[x, z] W (QPost (a - b) W) := minus_any x z a b 5 5 W (by omega) ha hb hx hz
theorem rmul_call (x z : Value) (a b : Rat) (W : World) (ha : QLt 5 a) (hb : QLt 5 b) (hx : QAt W x a) (hz : QAt W z b) : Calls Tryz.prog 130 #[x, z] W (QPost (a * b) W) := prod_any x z a b 5 5 W (by omega) ha hb hx hz
theorem radd_yes (s t : ByteArray) (a b : Rat) (w : World) (hab : QLt 5 a) (hbb : QLt 5 b) (htwo : ∀ W, Hid (Calls Tryz.prog 126 #[.string s, .string t] W (TwoPost a b true W))) : Calls Tryz.prog 107 #[.string s, .string t] w fun e w' => e = .returned (.string ⟨(txt (a + b)).toArray⟩) ∧ Below w.heap.size w w' := by
  obtain ⟨y, hy⟩ : ∃ y : ByteArray, Hid (y = ⟨(txt (a + b)).toArray⟩) := ⟨_, hiD rfl⟩
  rw [← hy.out]
  have hput : ∀ W x, QAt W x (a + b) → Hid (Calls Tryz.prog 127 #[x] W fun e w' => e = .returned (.string y) ∧ Below W.heap.size W w') := fun W x hx => hiD (by rw [hy.out]; exact put_any x _ (5 + 5 + 1) W (by omega) (hab.add hbb) hx)
  have hop : ∀ W x z, QAt W x a → QAt W z b → Hid (Calls Tryz.prog 128 #[x, z] W (QPost (a + b) W)) := fun W x z hx hz => hiD (radd_call x z a b W hab hbb hx hz)
  clear hab hbb
  go_enter Tryz.func107, Tryz.ntmps107
  go_wp2_with fail
  refine (htwo _).out.mono ?_
  rintro e w1 ⟨b1, p, n, c, p2, n2, c2, b2, q, m, d, q2, m2, d2, rfl, hb1, hq⟩
  obtain ⟨hx, hz⟩ := hq rfl
  have HB : Hid (∀ o1 o2, Below w.heap.size w ((w1.alloc o1).alloc o2)) := hiD fun o1 o2 => (hb1.alloc hb1.size o1).alloc (by have := hb1.size; simp; omega) o2
  have HX : Hid (∀ o1 o2, QAt ((w1.alloc o1).alloc o2) (.agg #[.bool b1, .slice p n c, .slice p2 n2 c2]) a ∧ QAt ((w1.alloc o1).alloc o2) (.agg #[.bool b2, .slice q m d, .slice q2 m2 d2]) b) := hiD fun o1 o2 => ⟨(hx.below (below_alloc9 _ _)).below (below_alloc9 _ _), (hz.below (below_alloc9 _ _)).below (below_alloc9 _ _)⟩
  clear hb1 hq hx hz
  go_wp2_with fail
  refine (hop _ _ _ (HX.out _ _).1 (HX.out _ _).2).out.mono ?_
  rintro e w3 ⟨x3, rfl, hx3, hb3⟩
  have hp3 := hput w3 x3 hx3
  obtain ⟨p3, n3, c3, p4, n4, c4, rfl, -, -⟩ := hx3.slices
  obtain ⟨sb, hsb⟩ : ∃ sb, Hid (sb = decide ((a + b).num < 0)) := ⟨_, hiD rfl⟩
  rw [← hsb.out] at hp3 ⊢
  have Hb3 := hiD ((HB.out _ _).trans (hb3.mono (HB.out _ _).size))
  clear hb3 hx3
  go_wp2_with fail
  refine hp3.out.mono ?_
  rintro e w4 ⟨rfl, hb4⟩
  have Hb4 := hiD (Hb3.out.trans (hb4.mono Hb3.out.size))
  clear hb4 hp3
  go_wp2_with fail
  go_ret
  exact ⟨rfl, Hb4.out⟩
theorem radd_no (s t : ByteArray) (a b : Rat) (w : World) (htwo : ∀ W, Hid (Calls Tryz.prog 126 #[.string s, .string t] W (TwoPost a b false W))) : Calls Tryz.prog 107 #[.string s, .string t] w fun e w' => e = .returned (.string ⟨#[]⟩) ∧ Below w.heap.size w w' := by
  go_enter Tryz.func107, Tryz.ntmps107
  go_wp2_with fail
  refine (htwo _).out.mono ?_
  rintro e w1 ⟨b1, p, n, c, p2, n2, c2, b2, q, m, d, q2, m2, d2, rfl, hb1, -⟩
  have HB : Hid (∀ o1 o2, Below w.heap.size w ((w1.alloc o1).alloc o2)) := hiD fun o1 o2 => (hb1.alloc hb1.size o1).alloc (by have := hb1.size; simp; omega) o2
  clear hb1
  go_wp2_with fail
  go_ret
  exact ⟨rfl, HB.out _ _⟩
theorem rsub_yes (s t : ByteArray) (a b : Rat) (w : World) (hab : QLt 5 a) (hbb : QLt 5 b) (htwo : ∀ W, Hid (Calls Tryz.prog 126 #[.string s, .string t] W (TwoPost a b true W))) : Calls Tryz.prog 108 #[.string s, .string t] w fun e w' => e = .returned (.string ⟨(txt (a - b)).toArray⟩) ∧ Below w.heap.size w w' := by
  obtain ⟨y, hy⟩ : ∃ y : ByteArray, Hid (y = ⟨(txt (a - b)).toArray⟩) := ⟨_, hiD rfl⟩
  rw [← hy.out]
  have hput : ∀ W x, QAt W x (a - b) → Hid (Calls Tryz.prog 127 #[x] W fun e w' => e = .returned (.string y) ∧ Below W.heap.size W w') := fun W x hx => hiD (by rw [hy.out]; exact put_any x _ (5 + 5 + 1) W (by omega) (hab.sub hbb) hx)
  have hop : ∀ W x z, QAt W x a → QAt W z b → Hid (Calls Tryz.prog 129 #[x, z] W (QPost (a - b) W)) := fun W x z hx hz => hiD (rsub_call x z a b W hab hbb hx hz)
  clear hab hbb
  go_enter Tryz.func108, Tryz.ntmps108
  go_wp2_with fail
  refine (htwo _).out.mono ?_
  rintro e w1 ⟨b1, p, n, c, p2, n2, c2, b2, q, m, d, q2, m2, d2, rfl, hb1, hq⟩
  obtain ⟨hx, hz⟩ := hq rfl
  have HB : Hid (∀ o1 o2, Below w.heap.size w ((w1.alloc o1).alloc o2)) := hiD fun o1 o2 => (hb1.alloc hb1.size o1).alloc (by have := hb1.size; simp; omega) o2
  have HX : Hid (∀ o1 o2, QAt ((w1.alloc o1).alloc o2) (.agg #[.bool b1, .slice p n c, .slice p2 n2 c2]) a ∧ QAt ((w1.alloc o1).alloc o2) (.agg #[.bool b2, .slice q m d, .slice q2 m2 d2]) b) := hiD fun o1 o2 => ⟨(hx.below (below_alloc9 _ _)).below (below_alloc9 _ _), (hz.below (below_alloc9 _ _)).below (below_alloc9 _ _)⟩
  clear hb1 hq hx hz
  go_wp2_with fail
  refine (hop _ _ _ (HX.out _ _).1 (HX.out _ _).2).out.mono ?_
  rintro e w3 ⟨x3, rfl, hx3, hb3⟩
  have hp3 := hput w3 x3 hx3
  obtain ⟨p3, n3, c3, p4, n4, c4, rfl, -, -⟩ := hx3.slices
  obtain ⟨sb, hsb⟩ : ∃ sb, Hid (sb = decide ((a - b).num < 0)) := ⟨_, hiD rfl⟩
  rw [← hsb.out] at hp3 ⊢
  have Hb3 := hiD ((HB.out _ _).trans (hb3.mono (HB.out _ _).size))
  clear hb3 hx3
  go_wp2_with fail
  refine hp3.out.mono ?_
  rintro e w4 ⟨rfl, hb4⟩
  have Hb4 := hiD (Hb3.out.trans (hb4.mono Hb3.out.size))
  clear hb4 hp3
  go_wp2_with fail
  go_ret
  exact ⟨rfl, Hb4.out⟩
theorem rsub_no (s t : ByteArray) (a b : Rat) (w : World) (htwo : ∀ W, Hid (Calls Tryz.prog 126 #[.string s, .string t] W (TwoPost a b false W))) : Calls Tryz.prog 108 #[.string s, .string t] w fun e w' => e = .returned (.string ⟨#[]⟩) ∧ Below w.heap.size w w' := by
  go_enter Tryz.func108, Tryz.ntmps108
  go_wp2_with fail
  refine (htwo _).out.mono ?_
  rintro e w1 ⟨b1, p, n, c, p2, n2, c2, b2, q, m, d, q2, m2, d2, rfl, hb1, -⟩
  have HB : Hid (∀ o1 o2, Below w.heap.size w ((w1.alloc o1).alloc o2)) := hiD fun o1 o2 => (hb1.alloc hb1.size o1).alloc (by have := hb1.size; simp; omega) o2
  clear hb1
  go_wp2_with fail
  go_ret
  exact ⟨rfl, HB.out _ _⟩
theorem rmul_yes (s t : ByteArray) (a b : Rat) (w : World) (hab : QLt 5 a) (hbb : QLt 5 b) (htwo : ∀ W, Hid (Calls Tryz.prog 126 #[.string s, .string t] W (TwoPost a b true W))) : Calls Tryz.prog 109 #[.string s, .string t] w fun e w' => e = .returned (.string ⟨(txt (a * b)).toArray⟩) ∧ Below w.heap.size w w' := by
  obtain ⟨y, hy⟩ : ∃ y : ByteArray, Hid (y = ⟨(txt (a * b)).toArray⟩) := ⟨_, hiD rfl⟩
  rw [← hy.out]
  have hput : ∀ W x, QAt W x (a * b) → Hid (Calls Tryz.prog 127 #[x] W fun e w' => e = .returned (.string y) ∧ Below W.heap.size W w') := fun W x hx => hiD (by rw [hy.out]; exact put_any x _ (5 + 5) W (by omega) (hab.mul hbb) hx)
  have hop : ∀ W x z, QAt W x a → QAt W z b → Hid (Calls Tryz.prog 130 #[x, z] W (QPost (a * b) W)) := fun W x z hx hz => hiD (rmul_call x z a b W hab hbb hx hz)
  clear hab hbb
  go_enter Tryz.func109, Tryz.ntmps109
  go_wp2_with fail
  refine (htwo _).out.mono ?_
  rintro e w1 ⟨b1, p, n, c, p2, n2, c2, b2, q, m, d, q2, m2, d2, rfl, hb1, hq⟩
  obtain ⟨hx, hz⟩ := hq rfl
  have HB : Hid (∀ o1 o2, Below w.heap.size w ((w1.alloc o1).alloc o2)) := hiD fun o1 o2 => (hb1.alloc hb1.size o1).alloc (by have := hb1.size; simp; omega) o2
  have HX : Hid (∀ o1 o2, QAt ((w1.alloc o1).alloc o2) (.agg #[.bool b1, .slice p n c, .slice p2 n2 c2]) a ∧ QAt ((w1.alloc o1).alloc o2) (.agg #[.bool b2, .slice q m d, .slice q2 m2 d2]) b) := hiD fun o1 o2 => ⟨(hx.below (below_alloc9 _ _)).below (below_alloc9 _ _), (hz.below (below_alloc9 _ _)).below (below_alloc9 _ _)⟩
  clear hb1 hq hx hz
  go_wp2_with fail
  refine (hop _ _ _ (HX.out _ _).1 (HX.out _ _).2).out.mono ?_
  rintro e w3 ⟨x3, rfl, hx3, hb3⟩
  have hp3 := hput w3 x3 hx3
  obtain ⟨p3, n3, c3, p4, n4, c4, rfl, -, -⟩ := hx3.slices
  obtain ⟨sb, hsb⟩ : ∃ sb, Hid (sb = decide ((a * b).num < 0)) := ⟨_, hiD rfl⟩
  rw [← hsb.out] at hp3 ⊢
  have Hb3 := hiD ((HB.out _ _).trans (hb3.mono (HB.out _ _).size))
  clear hb3 hx3
  go_wp2_with fail
  refine hp3.out.mono ?_
  rintro e w4 ⟨rfl, hb4⟩
  have Hb4 := hiD (Hb3.out.trans (hb4.mono Hb3.out.size))
  clear hb4 hp3
  go_wp2_with fail
  go_ret
  exact ⟨rfl, Hb4.out⟩
theorem rmul_no (s t : ByteArray) (a b : Rat) (w : World) (htwo : ∀ W, Hid (Calls Tryz.prog 126 #[.string s, .string t] W (TwoPost a b false W))) : Calls Tryz.prog 109 #[.string s, .string t] w fun e w' => e = .returned (.string ⟨#[]⟩) ∧ Below w.heap.size w w' := by
  go_enter Tryz.func109, Tryz.ntmps109
  go_wp2_with fail
  refine (htwo _).out.mono ?_
  rintro e w1 ⟨b1, p, n, c, p2, n2, c2, b2, q, m, d, q2, m2, d2, rfl, hb1, -⟩
  have HB : Hid (∀ o1 o2, Below w.heap.size w ((w1.alloc o1).alloc o2)) := hiD fun o1 o2 => (hb1.alloc hb1.size o1).alloc (by have := hb1.size; simp; omega) o2
  clear hb1
  go_wp2_with fail
  go_ret
  exact ⟨rfl, HB.out _ _⟩
end Go.Proofs.YtigidchicloleaaGreatDoor
set_option maxHeartbeats 3200000
set_option maxRecDepth 100000
namespace Go.Proofs.YtigidchicloleaaGreatDoor
open Go.RowKit Big
open Go.Lib
theorem sgn_same (q : Rat) : sgnQ q = sgnR q := by
  unfold sgnQ sgnR
  have h1 : q.num < 0 ↔ q < 0 := by rw [← Rat.not_le, ← Rat.num_nonneg]; omega
  have h2 : q.num = 0 ↔ q = 0 := Rat.num_eq_zero
  simp only [h1, h2]
theorem rdiv_no (s t : ByteArray) (a b : Rat) (w : World) (htwo : ∀ W, Hid (Calls Tryz.prog 126 #[.string s, .string t] W (TwoPost a b false W))) : Calls Tryz.prog 110 #[.string s, .string t] w (TxtPost [] w) := by
  go_enter Tryz.func110, Tryz.ntmps110
  go_wp2_with fail
  refine (htwo _).out.mono ?_
  rintro e w1 ⟨b1, p, n, c, p2, n2, c2, b2, q, m, d, q2, m2, d2, rfl, hb1, -⟩
  have HB : Hid (∀ o1 o2, Below w.heap.size w ((w1.alloc o1).alloc o2)) := hiD fun o1 o2 => (hb1.alloc hb1.size o1).alloc (by have := hb1.size; simp; omega) o2
  clear hb1
  go_wp2_with fail
  go_ret
  exact ⟨rfl, HB.out _ _⟩
theorem rdiv_zero (s t : ByteArray) (a b : Rat) (w : World) (hb0 : sgnQ b = 0) (htwo : ∀ W, Hid (Calls Tryz.prog 126 #[.string s, .string t] W (TwoPost a b true W))) : Calls Tryz.prog 110 #[.string s, .string t] w (TxtPost [] w) := by
  have hsg : ∀ W z, QAt W z b → Hid (Calls Tryz.prog 131 #[z] W fun e w' => e = .returned (.int .i64 0) ∧ Below W.heap.size W w') := fun W z hz => hiD (by have h := sgn_any z b W hz; rw [hb0] at h; exact h)
  go_enter Tryz.func110, Tryz.ntmps110
  go_wp2_with fail
  refine (htwo _).out.mono ?_
  rintro e w1 ⟨b1, p, n, c, p2, n2, c2, b2, q, m, d, q2, m2, d2, rfl, hb1, hq⟩
  obtain ⟨hx, hz⟩ := hq rfl
  have HB : Hid (∀ o1 o2, Below w.heap.size w ((w1.alloc o1).alloc o2)) := hiD fun o1 o2 => (hb1.alloc hb1.size o1).alloc (by have := hb1.size; simp; omega) o2
  have HX : Hid (∀ o1 o2, QAt ((w1.alloc o1).alloc o2) (.agg #[.bool b1, .slice p n c, .slice p2 n2 c2]) a ∧ QAt ((w1.alloc o1).alloc o2) (.agg #[.bool b2, .slice q m d, .slice q2 m2 d2]) b) := hiD fun o1 o2 => ⟨(hx.below (below_alloc9 _ _)).below (below_alloc9 _ _), (hz.below (below_alloc9 _ _)).below (below_alloc9 _ _)⟩
  clear hb1 hq hx hz
  go_wp2_with fail
  refine (hsg _ _ (HX.out _ _).2).out.mono ?_
  rintro e w3 ⟨rfl, hb3⟩
  have Hb3 := hiD ((HB.out _ _).trans (hb3.mono (HB.out _ _).size))
  clear hb3
  go_wp2_with fail
  go_ret
  exact ⟨rfl, Hb3.out⟩
theorem rdiv_yes (s t : ByteArray) (a b : Rat) (z : Int) (w : World) (hz0 : sgnQ b = z) (hzb : (z == 0) = false) (hab : QLt 5 a) (hbb : QLt 5 b) (htwo : ∀ W, Hid (Calls Tryz.prog 126 #[.string s, .string t] W (TwoPost a b true W))) : Calls Tryz.prog 110 #[.string s, .string t] w (TxtPost (txt (a / b)) w) := by
  obtain ⟨y, hy⟩ : ∃ y : ByteArray, Hid (y = ⟨(txt (a / b)).toArray⟩) := ⟨_, hiD rfl⟩
  unfold TxtPost
  rw [← hy.out]
  have hsg : ∀ W z', QAt W z' b → Hid (Calls Tryz.prog 131 #[z'] W fun e w' => e = .returned (.int .i64 z) ∧ Below W.heap.size W w') := fun W z' hz => hiD (by have h := sgn_any z' b W hz; rw [hz0] at h; exact h)
  have hput : ∀ W x, QAt W x (a / b) → Hid (Calls Tryz.prog 127 #[x] W fun e w' => e = .returned (.string y) ∧ Below W.heap.size W w') := fun W x hx => hiD (by rw [hy.out]; exact put_any x _ (5 + 5) W (by omega) (hab.quo hbb) hx)
  have hop : ∀ W x z, QAt W x a → QAt W z b → Hid (Calls Tryz.prog 132 #[x, z] W (QPost (a / b) W)) := fun W x z hx hz => hiD (quot_any x z a b 5 5 W (by omega) hab hbb hx hz)
  clear hab hbb hz0
  go_enter Tryz.func110, Tryz.ntmps110
  go_wp2_with fail
  refine (htwo _).out.mono ?_
  rintro e w1 ⟨b1, p, n, c, p2, n2, c2, b2, q, m, d, q2, m2, d2, rfl, hb1, hq⟩
  obtain ⟨hx, hz⟩ := hq rfl
  have HB : Hid (∀ o1 o2, Below w.heap.size w ((w1.alloc o1).alloc o2)) := hiD fun o1 o2 => (hb1.alloc hb1.size o1).alloc (by have := hb1.size; simp; omega) o2
  have HX : Hid (∀ o1 o2, QAt ((w1.alloc o1).alloc o2) (.agg #[.bool b1, .slice p n c, .slice p2 n2 c2]) a ∧ QAt ((w1.alloc o1).alloc o2) (.agg #[.bool b2, .slice q m d, .slice q2 m2 d2]) b) := hiD fun o1 o2 => ⟨(hx.below (below_alloc9 _ _)).below (below_alloc9 _ _), (hz.below (below_alloc9 _ _)).below (below_alloc9 _ _)⟩
  clear hb1 hq hx hz
  have hB5 : (((w1.alloc (.cells #[.bool b1, .slice p n c, .slice p2 n2 c2] 112)).alloc (.cells #[.bool b2, .slice q m d, .slice q2 m2 d2] 112))).heap[w1.heap.size]? = some (.cells #[.bool b1, .slice p n c, .slice p2 n2 c2] 112 (0, 0)) := by rw [heap_old _ _ _ (by simp)]; exact heap_new _ _
  have hB6 : (((w1.alloc (.cells #[.bool b1, .slice p n c, .slice p2 n2 c2] 112)).alloc (.cells #[.bool b2, .slice q m d, .slice q2 m2 d2] 112))).heap[w1.heap.size + 1]? = some (.cells #[.bool b2, .slice q m d, .slice q2 m2 d2] 112 (0, 0)) := by
    rw [show w1.heap.size + 1 = (w1.alloc (.cells #[.bool b1, .slice p n c, .slice p2 n2 c2] 112)).heap.size from by simp]; exact heap_new _ _
  have HB5 := hiD hB5
  have HB6 := hiD hB6
  clear hB5 hB6
  go_wp2_with fail
  refine (hsg _ _ (HX.out _ _).2).out.mono ?_
  rintro e w3 ⟨rfl, hb3⟩
  have Hb3 := hiD ((HB.out _ _).trans (hb3.mono (HB.out _ _).size))
  have hX3 := hiD ((HX.out _ _).1.below hb3)
  have hZ3 := hiD ((HX.out _ _).2.below hb3)
  have h5 := (hb3.block w1.heap.size (by simp; omega)).trans HB5.out
  have h6 := (hb3.block (w1.heap.size + 1) (by simp)).trans HB6.out
  have y0 := ceh h5 0
  have y1 := ceh h5 1
  have y2 := ceh h5 2
  have y3 := ceh h6 0
  have y4 := ceh h6 1
  have y5 := ceh h6 2
  clear hb3 h5 h6
  go_wp2_with fail
  refine (hop _ _ _ hX3.out hZ3.out).out.mono ?_
  rintro e w4 ⟨x3, rfl, hx3, hb4⟩
  have hp3 := hput w4 x3 hx3
  obtain ⟨p3, n3, c3, p4, n4, c4, rfl, -, -⟩ := hx3.slices
  obtain ⟨sb, hsb⟩ : ∃ sb, Hid (sb = decide ((a / b).num < 0)) := ⟨_, hiD rfl⟩
  rw [← hsb.out] at hp3 ⊢
  have Hb4 := hiD (Hb3.out.trans (hb4.mono Hb3.out.size))
  clear hb4 hx3
  go_wp2_with fail
  refine hp3.out.mono ?_
  rintro e w5 ⟨rfl, hb5⟩
  have Hb5 := hiD (Hb4.out.trans (hb5.mono Hb4.out.size))
  clear hb5 hp3
  go_wp2_with fail
  go_ret
  exact ⟨rfl, Hb5.out⟩
theorem rcmp_no (s t : ByteArray) (a b : Rat) (w : World) (htwo : ∀ W, Hid (Calls Tryz.prog 126 #[.string s, .string t] W (TwoPost a b false W))) : Calls Tryz.prog 111 #[.string s, .string t] w (CmpTPost (0, false) w) := by
  go_enter Tryz.func111, Tryz.ntmps111
  go_wp2_with fail
  refine (htwo _).out.mono ?_
  rintro e w1 ⟨b1, p, n, c, p2, n2, c2, b2, q, m, d, q2, m2, d2, rfl, hb1, -⟩
  have HB : Hid (∀ o1 o2, Below w.heap.size w ((w1.alloc o1).alloc o2)) := hiD fun o1 o2 => (hb1.alloc hb1.size o1).alloc (by have := hb1.size; simp; omega) o2
  clear hb1
  go_wp2_with fail
  go_ret2
  exact ⟨rfl, HB.out _ _⟩
theorem rcmp_yes (s t : ByteArray) (a b : Rat) (z : Int) (w : World) (hz0 : sgnQ (a - b) = z) (hab : QLt 5 a) (hbb : QLt 5 b) (htwo : ∀ W, Hid (Calls Tryz.prog 126 #[.string s, .string t] W (TwoPost a b true W))) : Calls Tryz.prog 111 #[.string s, .string t] w (CmpTPost (z, true) w) := by
  have hop : ∀ W x y, QAt W x a → QAt W y b → Hid (Calls Tryz.prog 133 #[x, y] W fun e w' => e = .returned (.int .i64 z) ∧ Below W.heap.size W w') := fun W x y hx hy => hiD (by have h := cmp_any x y a b 5 5 W (by omega) hab hbb hx hy; rw [hz0] at h; exact h)
  clear hab hbb hz0
  go_enter Tryz.func111, Tryz.ntmps111
  go_wp2_with fail
  refine (htwo _).out.mono ?_
  rintro e w1 ⟨b1, p, n, c, p2, n2, c2, b2, q, m, d, q2, m2, d2, rfl, hb1, hq⟩
  obtain ⟨hx, hz⟩ := hq rfl
  have HB : Hid (∀ o1 o2, Below w.heap.size w ((w1.alloc o1).alloc o2)) := hiD fun o1 o2 => (hb1.alloc hb1.size o1).alloc (by have := hb1.size; simp; omega) o2
  have HX : Hid (∀ o1 o2, QAt ((w1.alloc o1).alloc o2) (.agg #[.bool b1, .slice p n c, .slice p2 n2 c2]) a ∧ QAt ((w1.alloc o1).alloc o2) (.agg #[.bool b2, .slice q m d, .slice q2 m2 d2]) b) := hiD fun o1 o2 => ⟨(hx.below (below_alloc9 _ _)).below (below_alloc9 _ _), (hz.below (below_alloc9 _ _)).below (below_alloc9 _ _)⟩
  clear hb1 hq hx hz
  go_wp2_with fail
  refine (hop _ _ _ (HX.out _ _).1 (HX.out _ _).2).out.mono ?_
  rintro e w3 ⟨rfl, hb3⟩
  have Hb3 := hiD ((HB.out _ _).trans (hb3.mono (HB.out _ _).size))
  clear hb3
  go_wp2_with fail
  go_ret2
  exact ⟨rfl, Hb3.out⟩
theorem two_yes {s t : ByteArray} {a b : Rat} (ha : num s.data.toList = some a) (hb : num t.data.toList = some b) (W : World) : Hid (Calls Tryz.prog 126 #[.string s, .string t] W (TwoPost a b true W)) := hiD (by
  have h := two_any s t W
  rw [ha, hb] at h; exact h)
theorem two_not {s t : ByteArray} (hn : num s.data.toList = none ∨ num t.data.toList = none) (W : World) : Hid (Calls Tryz.prog 126 #[.string s, .string t] W (TwoPost 0 0 false W)) := hiD (by
  have h := two_any s t W
  have k : ∀ e w', (∃ a b, TwoPost a b false W e w') → TwoPost 0 0 false W e w' := by
    rintro e w' ⟨a, b, b1, p, n, c, p2, n2, c2, b2, q, m, d, q2, m2, d2, h1, h2, _⟩
    exact ⟨b1, p, n, c, p2, n2, c2, b2, q, m, d, q2, m2, d2, h1, h2, fun h => by cases h⟩
  refine h.mono fun e w' h => ?_
  rcases hn with h1 | h1
  · rw [h1] at h; exact k _ _ h
  · rw [h1] at h
    cases h2 : num s.data.toList with
    | none => rw [h2] at h; exact k _ _ h
    | some a => rw [h2] at h; exact k _ _ h)
theorem opT_none {f : Rat → Rat → Rat} {x y : List UInt8} (h : num x = none ∨ num y = none) : opT f x y = [] := by
  unfold opT
  rcases h with h | h
  · rw [h]
  · rw [h]; cases num x <;> rfl
theorem num_both (x y : List UInt8) : (∃ a b, num x = some a ∧ num y = some b) ∨ (num x = none ∨ num y = none) := by
  cases hx : num x with
  | none => exact .inr (.inl rfl)
  | some a => cases hy : num y with
    | none => exact .inr (.inr rfl)
    | some b => exact .inl ⟨a, b, rfl, rfl⟩
theorem radd_q (s t : ByteArray) (w : World) : Calls Tryz.prog 107 #[.string s, .string t] w (TxtPost (opT (· + ·) s.data.toList t.data.toList) w) := by
  rcases num_both s.data.toList t.data.toList with ⟨a, b, ha, hb⟩ | hn
  · rw [opT_some ha hb]; exact radd_yes s t a b w (num_lt9 ha) (num_lt9 hb) (two_yes ha hb)
  · rw [opT_none hn]; exact radd_no s t 0 0 w (two_not hn)
theorem rsub_q (s t : ByteArray) (w : World) : Calls Tryz.prog 108 #[.string s, .string t] w (TxtPost (opT (· - ·) s.data.toList t.data.toList) w) := by
  rcases num_both s.data.toList t.data.toList with ⟨a, b, ha, hb⟩ | hn
  · rw [opT_some ha hb]; exact rsub_yes s t a b w (num_lt9 ha) (num_lt9 hb) (two_yes ha hb)
  · rw [opT_none hn]; exact rsub_no s t 0 0 w (two_not hn)
theorem rmul_q (s t : ByteArray) (w : World) : Calls Tryz.prog 109 #[.string s, .string t] w (TxtPost (opT (· * ·) s.data.toList t.data.toList) w) := by
  rcases num_both s.data.toList t.data.toList with ⟨a, b, ha, hb⟩ | hn
  · rw [opT_some ha hb]; exact rmul_yes s t a b w (num_lt9 ha) (num_lt9 hb) (two_yes ha hb)
  · rw [opT_none hn]; exact rmul_no s t 0 0 w (two_not hn)
theorem rdiv_q (s t : ByteArray) (w : World) : Calls Tryz.prog 110 #[.string s, .string t] w (TxtPost (divT s.data.toList t.data.toList) w) := by
  unfold divT
  rcases num_both s.data.toList t.data.toList with ⟨a, b, ha, hb⟩ | hn
  · by_cases h0 : t.data.toList = [48]
    · rw [if_pos h0]
      have hb0 : b = 0 := by rw [h0, num_zero] at hb; exact (Option.some.inj hb).symm
      exact rdiv_zero s t a b w (by rw [hb0]; rfl) (two_yes ha hb)
    · rw [if_neg h0, opT_some ha hb]
      have hbn : b ≠ 0 := fun e => h0 (num_inj (e ▸ hb) num_zero)
      refine rdiv_yes s t a b _ w rfl ?_ (num_lt9 ha) (num_lt9 hb) (two_yes ha hb)
      have hn0 : b.num ≠ 0 := fun e => hbn (Rat.num_eq_zero.1 e)
      unfold sgnQ
      by_cases h : b.num < 0
      · rw [if_pos h]; rfl
      · rw [if_neg h, if_neg hn0]; rfl
  · have e : (if t.data.toList = [48] then [] else opT (· / ·) s.data.toList t.data.toList) = [] := by rw [opT_none hn]; simp
    rw [e]; exact rdiv_no s t 0 0 w (two_not hn)
theorem rcompare_q (s t : ByteArray) (w : World) : Calls Tryz.prog 111 #[.string s, .string t] w (CmpTPost (cmpT s.data.toList t.data.toList) w) := by
  rcases num_both s.data.toList t.data.toList with ⟨a, b, ha, hb⟩ | hn
  · rw [cmpT_some ha hb]; exact rcmp_yes s t a b _ w (sgn_same _) (num_lt9 ha) (num_lt9 hb) (two_yes ha hb)
  · have e : cmpT s.data.toList t.data.toList = (0, false) := by
      unfold cmpT
      rcases hn with h | h
      · rw [h]
      · rw [h]; cases num s.data.toList <;> rfl
    rw [e]; exact rcmp_no s t 0 0 w (two_not hn)
end Go.Proofs.YtigidchicloleaaGreatDoor
set_option maxHeartbeats 1000000
set_option maxRecDepth 100000
namespace Go.Proofs.YtigidchicloleaaGreatDoor.Arr
open Go.RowKit
open Go.Lib
structure Rd (w : World) (p : Option Addr) (l : List Int) : Prop where
  wf : ∀ z ∈ l, -9223372036854775808 ≤ z ∧ z ≤ 9223372036854775807
  cell : l.length = 0 ∨ ∃ b off, p = some ⟨b, off, none⟩ ∧ b < w.heap.size ∧ ∀ j, j < l.length → w.cell? ⟨b, off + j, none⟩ = some (.int .i64 (l.getD j 0))
theorem Rd.below {w w' : World} {p : Option Addr} {l : List Int} (h : Rd w p l) (hb : Below w.heap.size w w') : Rd w' p l := ⟨h.wf, h.cell.imp id fun ⟨b, off, h1, h2, h3⟩ =>
  ⟨b, off, h1, Nat.lt_of_lt_of_le h2 hb.size, fun j hj => (hb.cell (p := ⟨b, off + j, none⟩) h2).trans (h3 j hj)⟩⟩
theorem Rd.at {w : World} {p : Option Addr} {l : List Int} (h : Rd w p l) {k : Nat} (hk : k < l.length) : ∃ b off z, p = some ⟨b, off, none⟩ ∧ b < w.heap.size ∧ w.cell? ⟨b, off + k, none⟩ = some (.int .i64 z) ∧ Hid (z = l.getD k 0) ∧ -9223372036854775808 ≤ z ∧ z ≤ 9223372036854775807 := by
  rcases h.cell with h0 | ⟨b, off, h1, h2, h3⟩
  · omega
  · refine ⟨b, off, _, h1, h2, h3 k hk, Lib.hid rfl, ?_⟩
    have hm : l.getD k 0 ∈ l := by rw [List.getD_eq_getElem?_getD, List.getElem?_eq_getElem hk]; exact List.getElem_mem hk
    exact h.wf _ hm
def RdN (w : World) (p : Option Addr) (l : List Nat) : Prop := Rd w p (l.map Int.ofNat)
theorem RdN.below {w w' : World} {p : Option Addr} {l : List Nat} (h : RdN w p l) (hb : Below w.heap.size w w') : RdN w' p l := Rd.below h hb
theorem RdN.at {w : World} {p : Option Addr} {l : List Nat} (h : RdN w p l) {k : Nat} (hk : k < l.length) : ∃ b off x, p = some ⟨b, off, none⟩ ∧ b < w.heap.size ∧ w.cell? ⟨b, off + k, none⟩ = some (.int .i64 ((x : Nat) : Int)) ∧ Hid (x = l.getD k 0) := by
  obtain ⟨b, off, z, h1, h2, h3, h4, -⟩ := Rd.at h (k := k) (by simpa using hk)
  refine ⟨b, off, l.getD k 0, h1, h2, ?_, Lib.hid rfl⟩
  rw [h3, h4.out, List.getD_eq_getElem?_getD, List.getElem?_map, List.getD_eq_getElem?_getD, List.getElem?_eq_getElem hk]
  rfl
def prod (l : List Nat) : Nat := l.foldl (· * ·) 1
theorem prod_take {l : List Nat} {i : Nat} (h : i < l.length) : prod (l.take (i + 1)) = prod (l.take i) * l.getD i 0 := by
  rw [List.take_succ_eq_append_getElem h, prod, List.foldl_append]
  simp [prod, List.getD_eq_getElem?_getD, List.getElem?_eq_getElem h]
theorem prod_le {l : List Nat} (hb : ∀ x ∈ l, x ≤ 1024) : ∀ i, i ≤ l.length → prod (l.take i) ≤ 1024 ^ i
  | 0, _ => by simp [prod]
  | i + 1, h => by
    have h1 := prod_le hb i (by omega)
    have h2 : l.getD i 0 ≤ 1024 := by
      rw [List.getD_eq_getElem?_getD, List.getElem?_eq_getElem (by omega)]
      exact hb _ (List.getElem_mem _)
    rw [prod_take (by omega), Nat.pow_succ]
    exact Nat.mul_le_mul h1 h2
theorem pow_small {i : Nat} (h : i ≤ 4) : 1024 ^ i ≤ 1099511627776 := by
  have := Nat.pow_le_pow_right (n := 1024) (by decide) h
  exact Nat.le_trans this (by decide)
theorem product_any (p : Option Addr) (c : Nat) (l : List Nat) (w : World) (hl : l.length ≤ 4) (hb : ∀ x ∈ l, x ≤ 1024) (h : RdN w p l) :
    Calls Tryz.prog 57 #[.slice p l.length c] w fun e w' => w = w' ∧ e = .returned (.int .i64 ((prod l : Nat) : Int)) := by
  have H := Lib.hid h
  have HB := Lib.hid hb
  obtain ⟨n, HN⟩ : ∃ n, Hid (n = l.length) := ⟨_, rfl⟩
  rw [← HN.out] at hl ⊢
  have hni : (n : Int) ≤ 4 := by omega
  clear h hb
  go_enter Tryz.func57, Tryz.ntmps57
  go_wp2_with fail
  go_loop [3, 8] (fun pv iv => ∃ i a : Nat, i ≤ n ∧ iv = .int .i64 i ∧ pv = .int .i64 a ∧ Hid (a = prod (l.take i))) (fun _ iv => n - (Go.RowKit.intOf iv).toNat)
  case atStart => exact ⟨0, 1, Nat.zero_le _, rfl, rfl, Lib.hid (by simp [prod])⟩
  case round =>
    obtain ⟨i, a, hi, rfl, rfl, HA⟩ := hrel
    have ii : (i : Int) ≤ (n : Int) := by omega
    by_cases hlt : i < n
    · have ilt : (i : Int) < (n : Int) := by omega
      obtain ⟨b, off, x, rfl, -, hcell, HX⟩ := H.out.at (k := i) (by rw [← HN.out]; exact hlt)
      obtain ⟨m, HM⟩ : ∃ m, Hid (m = a * x) := ⟨_, rfl⟩
      have hst : Hid (m = prod (l.take (i + 1))) := Lib.hid (by rw [HM.out, prod_take (by rw [← HN.out]; exact hlt), ← HA.out, ← HX.out])
      have hmul : (a : Int) * (x : Int) = (m : Int) := by rw [HM.out]; exact (Int.natCast_mul a x).symm
      have hmi : (m : Int) ≤ 1099511627776 := by
        have h1 := prod_le HB.out (i + 1) (by rw [← HN.out]; omega)
        have h2 := pow_small (i := i + 1) (by omega)
        rw [← hst.out] at h1
        omega
      go_wp2_with fail
      go_round
      case rel => exact ⟨i + 1, m, by omega, by go_num, rfl, hst⟩
      case measure => simp [Go.RowKit.intOf]; omega
    · obtain rfl : i = n := by omega
      have ilt : ¬ (i : Int) < (i : Int) := by omega
      have hfin : Hid (a = prod l) := Lib.hid (by rw [HA.out, HN.out, List.take_length])
      go_wp2_with fail
      go_ret
      exact ⟨rfl, by rw [hfin.out]; rfl⟩
end Go.Proofs.YtigidchicloleaaGreatDoor.Arr
