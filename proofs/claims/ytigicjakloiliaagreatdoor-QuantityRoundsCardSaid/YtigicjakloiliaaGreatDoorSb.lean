/- The document's Round on texts. -/
import Derived.Test.YtigicjakloiliaaGreatDoorSa
import Derived.Test.YtigicjakloiliaaGreatDoorSC
set_option maxHeartbeats 3200000
set_option maxRecDepth 100000
namespace Go.Proofs.YtigicjakloiliaaGreatDoor
open Go.RowKit Big
open Go.Lib
theorem rround_no (s t : ByteArray) (a b : Rat) (w : World) (htwo : ∀ W, Hid (Calls Tryz.prog 84 #[.string s, .string t] W (TwoPost a b false W))) : Calls Tryz.prog 39 #[.string s, .string t] w (TxtPost [] w) := by
  go_enter Tryz.func39, Tryz.ntmps39
  go_wp2_with fail
  refine (htwo _).out.mono ?_
  rintro e w1 ⟨b1, p, n, c, p2, n2, c2, b2, q, m, d, q2, m2, d2, rfl, hb1, -⟩
  have HB : Hid (∀ o1 o2, Below w.heap.size w ((w1.alloc o1).alloc o2)) := Lib.hid fun o1 o2 => (hb1.alloc hb1.size o1).alloc (by have := hb1.size; simp; omega) o2
  clear hb1
  go_wp2_with fail
  go_ret
  exact ⟨rfl, HB.out _ _⟩
theorem rround_zero (s t : ByteArray) (a b : Rat) (w : World) (hb0 : sgnQ b = 0) (htwo : ∀ W, Hid (Calls Tryz.prog 84 #[.string s, .string t] W (TwoPost a b true W))) : Calls Tryz.prog 39 #[.string s, .string t] w (TxtPost [] w) := by
  have hsg : ∀ W z, QAt W z b → Hid (Calls Tryz.prog 42 #[z] W fun e w' => e = .returned (.int .i64 (0)) ∧ Below W.heap.size W w') := fun W z hz => Lib.hid (by have h := sgn_any z b W hz; rw [hb0] at h; exact h)
  go_enter Tryz.func39, Tryz.ntmps39
  go_wp2_with fail
  refine (htwo _).out.mono ?_
  rintro e w1 ⟨b1, p, n, c, p2, n2, c2, b2, q, m, d, q2, m2, d2, rfl, hb1, hq⟩
  obtain ⟨hx, hz⟩ := hq rfl
  have HB : Hid (∀ o1 o2, Below w.heap.size w ((w1.alloc o1).alloc o2)) := Lib.hid fun o1 o2 => (hb1.alloc hb1.size o1).alloc (by have := hb1.size; simp; omega) o2
  have HX : Hid (∀ o1 o2, QAt ((w1.alloc o1).alloc o2) (.agg #[.bool b1, .slice p n c, .slice p2 n2 c2]) a ∧ QAt ((w1.alloc o1).alloc o2) (.agg #[.bool b2, .slice q m d, .slice q2 m2 d2]) b) := Lib.hid fun o1 o2 => ⟨(hx.below (below_alloc9 _ _)).below (below_alloc9 _ _), (hz.below (below_alloc9 _ _)).below (below_alloc9 _ _)⟩
  clear hb1 hq hx hz
  go_wp2_with fail
  refine (hsg _ _ (HX.out _ _).2).out.mono ?_
  rintro e w3 ⟨rfl, hb3⟩
  have Hb3 := Lib.hid ((HB.out _ _).trans (hb3.mono (HB.out _ _).size))
  clear hb3
  go_wp2_with fail
  go_ret
  exact ⟨rfl, Hb3.out⟩
theorem rround_neg (s t : ByteArray) (a b : Rat) (w : World) (hb0 : sgnQ b = -1) (htwo : ∀ W, Hid (Calls Tryz.prog 84 #[.string s, .string t] W (TwoPost a b true W))) : Calls Tryz.prog 39 #[.string s, .string t] w (TxtPost [] w) := by
  have hsg : ∀ W z, QAt W z b → Hid (Calls Tryz.prog 42 #[z] W fun e w' => e = .returned (.int .i64 (-1)) ∧ Below W.heap.size W w') := fun W z hz => Lib.hid (by have h := sgn_any z b W hz; rw [hb0] at h; exact h)
  go_enter Tryz.func39, Tryz.ntmps39
  go_wp2_with fail
  refine (htwo _).out.mono ?_
  rintro e w1 ⟨b1, p, n, c, p2, n2, c2, b2, q, m, d, q2, m2, d2, rfl, hb1, hq⟩
  obtain ⟨hx, hz⟩ := hq rfl
  have HB : Hid (∀ o1 o2, Below w.heap.size w ((w1.alloc o1).alloc o2)) := Lib.hid fun o1 o2 => (hb1.alloc hb1.size o1).alloc (by have := hb1.size; simp; omega) o2
  have HX : Hid (∀ o1 o2, QAt ((w1.alloc o1).alloc o2) (.agg #[.bool b1, .slice p n c, .slice p2 n2 c2]) a ∧ QAt ((w1.alloc o1).alloc o2) (.agg #[.bool b2, .slice q m d, .slice q2 m2 d2]) b) := Lib.hid fun o1 o2 => ⟨(hx.below (below_alloc9 _ _)).below (below_alloc9 _ _), (hz.below (below_alloc9 _ _)).below (below_alloc9 _ _)⟩
  clear hb1 hq hx hz
  go_wp2_with fail
  refine (hsg _ _ (HX.out _ _).2).out.mono ?_
  rintro e w3 ⟨rfl, hb3⟩
  have Hb3 := Lib.hid ((HB.out _ _).trans (hb3.mono (HB.out _ _).size))
  clear hb3
  go_wp2_with fail
  go_ret
  exact ⟨rfl, Hb3.out⟩
theorem rround_yes (s t : ByteArray) (a b : Rat) (w : World) (hz0 : sgnQ b = 1) (hab : QLt 5 a) (hbb : QLt 5 b) (htwo : ∀ W, Hid (Calls Tryz.prog 84 #[.string s, .string t] W (TwoPost a b true W))) : Calls Tryz.prog 39 #[.string s, .string t] w (TxtPost (txt (rndQ a b)) w) := by
  obtain ⟨y, hy⟩ : ∃ y : ByteArray, Hid (y = ⟨(txt (rndQ a b)).toArray⟩) := ⟨_, Lib.hid rfl⟩
  unfold TxtPost
  rw [← hy.out]
  have hsg : ∀ W z', QAt W z' b → Hid (Calls Tryz.prog 42 #[z'] W fun e w' => e = .returned (.int .i64 1) ∧ Below W.heap.size W w') := fun W z' hz => Lib.hid (by have h := sgn_any z' b W hz; rw [hz0] at h; exact h)
  have hput : ∀ W x, QAt W x (rndQ a b) → Hid (Calls Tryz.prog 80 #[x] W fun e w' => e = .returned (.string y) ∧ Below W.heap.size W w') := fun W x hx => Lib.hid (by rw [hy.out]; exact put_any x _ (5 + 5 + 6 + 5) W (by omega) (hab.rnd hbb) hx)
  have hop : ∀ W x z, QAt W x a → QAt W z b → Hid (Calls Tryz.prog 95 #[x, z] W (QPost (rndQ a b) W)) := fun W x z hx hz => Lib.hid (rounded_any x z a b 5 5 W (by omega) hab hbb hx hz)
  clear hab hbb hz0
  obtain ⟨f, hf⟩ : ∃ f, Hid (f = rndQ a b) := ⟨_, Lib.hid rfl⟩
  rw [← hf.out] at hput hop hy
  go_enter Tryz.func39, Tryz.ntmps39
  go_wp2_with fail
  refine (htwo _).out.mono ?_
  rintro e w1 ⟨b1, p, n, c, p2, n2, c2, b2, q, m, d, q2, m2, d2, rfl, hb1, hq⟩
  obtain ⟨hx, hz⟩ := hq rfl
  have HB : Hid (∀ o1 o2, Below w.heap.size w ((w1.alloc o1).alloc o2)) := Lib.hid fun o1 o2 => (hb1.alloc hb1.size o1).alloc (by have := hb1.size; simp; omega) o2
  have HX : Hid (∀ o1 o2, QAt ((w1.alloc o1).alloc o2) (.agg #[.bool b1, .slice p n c, .slice p2 n2 c2]) a ∧ QAt ((w1.alloc o1).alloc o2) (.agg #[.bool b2, .slice q m d, .slice q2 m2 d2]) b) := Lib.hid fun o1 o2 => ⟨(hx.below (below_alloc9 _ _)).below (below_alloc9 _ _), (hz.below (below_alloc9 _ _)).below (below_alloc9 _ _)⟩
  clear hb1 hq hx hz
  have hB5 : (((w1.alloc (.cells #[.bool b1, .slice p n c, .slice p2 n2 c2] 38)).alloc (.cells #[.bool b2, .slice q m d, .slice q2 m2 d2] 38))).heap[w1.heap.size]? = some (.cells #[.bool b1, .slice p n c, .slice p2 n2 c2] 38 (0, 0)) := by rw [heap_old _ _ _ (by simp)]; exact heap_new _ _
  have hB6 : (((w1.alloc (.cells #[.bool b1, .slice p n c, .slice p2 n2 c2] 38)).alloc (.cells #[.bool b2, .slice q m d, .slice q2 m2 d2] 38))).heap[w1.heap.size + 1]? = some (.cells #[.bool b2, .slice q m d, .slice q2 m2 d2] 38 (0, 0)) := by
    rw [show w1.heap.size + 1 = (w1.alloc (.cells #[.bool b1, .slice p n c, .slice p2 n2 c2] 38)).heap.size from by simp]; exact heap_new _ _
  have HB5 := Lib.hid hB5
  have HB6 := Lib.hid hB6
  clear hB5 hB6
  go_wp2_with fail
  refine (hsg _ _ (HX.out _ _).2).out.mono ?_
  rintro e w3 ⟨rfl, hb3⟩
  have Hb3 := Lib.hid ((HB.out _ _).trans (hb3.mono (HB.out _ _).size))
  have hX3 := Lib.hid ((HX.out _ _).1.below hb3)
  have hZ3 := Lib.hid ((HX.out _ _).2.below hb3)
  have h5 := (hb3.block w1.heap.size (by simp; omega)).trans HB5.out
  have h6 := (hb3.block (w1.heap.size + 1) (by simp)).trans HB6.out
  have y0 := cell_of_heap h5 0
  have y1 := cell_of_heap h5 1
  have y2 := cell_of_heap h5 2
  have y3 := cell_of_heap h6 0
  have y4 := cell_of_heap h6 1
  have y5 := cell_of_heap h6 2
  clear hb3 h5 h6
  go_wp2_with fail
  refine (hop _ _ _ hX3.out hZ3.out).out.mono ?_
  rintro e w4 ⟨x3, rfl, hx3, hb4⟩
  have hp3 := hput w4 x3 hx3
  obtain ⟨p3, n3, c3, p4, n4, c4, rfl, -, -⟩ := hx3.slices
  obtain ⟨sb, hsb⟩ : ∃ sb, Hid (sb = decide (f.num < 0)) := ⟨_, Lib.hid rfl⟩
  rw [← hsb.out] at hp3 ⊢
  have Hb4 := Lib.hid (Hb3.out.trans (hb4.mono Hb3.out.size))
  clear hb4 hx3
  go_wp2_with fail
  refine hp3.out.mono ?_
  rintro e w5 ⟨rfl, hb5⟩
  have Hb5 := Lib.hid (Hb4.out.trans (hb5.mono Hb4.out.size))
  clear hb5 hp3
  go_wp2_with fail
  go_ret
  exact ⟨rfl, Hb5.out⟩
def rndT (l k : List UInt8) : List UInt8 := match num l, num k with
  | some a, some b => if sgnQ b = 1 then txt (rndQ a b) else []
  | _, _ => []
theorem rround_any (s t : ByteArray) (w : World) : Calls Tryz.prog 39 #[.string s, .string t] w (TxtPost (rndT s.data.toList t.data.toList) w) := by
  unfold rndT
  rcases num_both s.data.toList t.data.toList with ⟨a, b, ha, hb⟩ | h
  · rw [ha, hb]
    have ht := two_yes ha hb
    by_cases h1 : sgnQ b = 1
    · simp only [h1, if_true]
      exact rround_yes s t a b w h1 (num_lt9 ha) (num_lt9 hb) ht
    · simp only [h1, if_false]
      by_cases h0 : sgnQ b = 0
      · exact rround_zero s t a b w h0 ht
      · exact rround_neg s t a b w (by unfold sgnQ at h0 h1 ⊢; split at h0 <;> simp_all) ht
  · have e : (match num s.data.toList, num t.data.toList with
      | some a, some b => if sgnQ b = 1 then txt (rndQ a b) else []
      | _, _ => []) = [] := by
      rcases h with h | h
      · rw [h]
      · rw [h]; cases num s.data.toList <;> rfl
    rw [e]
    exact rround_no s t 0 0 w (two_not h)
end Go.Proofs.YtigicjakloiliaaGreatDoor
namespace Go.Proofs.YtigicjakloiliaaGreatDoor
open Go.RowKit Big
open Go.Lib
theorem floorN_scale (s : Bool) (a b k : Nat) (hk : 0 < k) : floorN s (a * k) (b * k) = floorN s a b := by
  unfold floorN
  rw [Nat.mul_div_mul_right a b hk, Nat.mul_mod_mul_right k a b]
  have e : (a % b * k == 0) = (a % b == 0) := by
    by_cases h : a % b = 0
    · simp [h]
    · have h2 : a % b * k ≠ 0 := Nat.mul_ne_zero h (by omega)
      rw [beq_eq_false_iff_ne.2 h, beq_eq_false_iff_ne.2 h2]
  rw [e]
theorem flo_ratv {s : Bool} {a b : Nat} (hb : 0 < b) (hs : s = true → 0 < a) : ratv s (floorN s a b) 1 = floQ (ratv s a b) := by
  obtain ⟨h1, h2, h3⟩ := ratv_num hb hs
  unfold floQ
  rw [h1, h2, h3]
  have hg : 0 < Nat.gcd a b := Nat.gcd_pos_of_pos_right _ hb
  have h := floorN_scale s (a / Nat.gcd a b) (b / Nat.gcd a b) _ hg
  rw [Nat.div_mul_cancel (Nat.gcd_dvd_left a b), Nat.div_mul_cancel (Nat.gcd_dvd_right a b)] at h
  rw [h]
theorem floor_is (x : Value) (q : Rat) (K : Nat) (w : World) (hK : K + 2 ≤ 1073741824) (hx : RatIs w x q K) : Calls Tryz.prog 93 #[x] w (IsPost (floQ q) (K + 1) w) := by
  obtain ⟨s, a, b, h1, h2, h3, h4, h5⟩ := hx
  have hs : s = true → 0 < a := by obtain ⟨u, v, -, -, -, hs⟩ := h1; exact hs
  refine (floor_any x s a b K w hK h4 h5 h3 h1).mono ?_
  rintro e w' ⟨z, rfl, hz, hb⟩
  have e1 : B64 ^ (K + 1) = B64 ^ K * 18446744073709551616 := by rw [Nat.pow_succ, B64_eq]
  have hp : 0 < B64 ^ K := Nat.lt_of_le_of_lt (Nat.zero_le _) h4
  have h6 : a / b < B64 ^ K := Nat.lt_of_le_of_lt (Nat.div_le_self _ _) h4
  have h7 : floorN s a b ≤ a / b + 1 := by
    unfold floorN
    split <;> omega
  exact ⟨z, rfl, ⟨_, _, _, hz, by rw [ratv_drop, flo_ratv h3 hs, h2], by omega, by omega, by omega⟩, hb⟩
theorem pfloor_bad (x : ByteArray) (w : World) (hx : Hid (Calls Tryz.prog 75 #[.string x] w (NumPost none w))) : Calls Tryz.prog 37 #[.string x] w (TxtPost [] w) := by
  unfold TxtPost
  go_enter Tryz.func37, Tryz.ntmps37
  go_wp2_with fail
  refine hx.out.mono ?_
  rintro e w2 ⟨hb2, b, p, n, c, q, m, d, rfl, -⟩
  have hbw := Lib.hid (hb2.trans ((below_alloc w2 (.cells #[.bool b, .slice p n c, .slice q m d] 69)).mono hb2.size))
  clear hb2
  go_wp2_with fail
  go_ret
  exact ⟨rfl, hbw.out⟩
theorem pfloor_ok (x : ByteArray) (r : Rat) (w : World) (htab : Tab w) (hx : Hid (Calls Tryz.prog 75 #[.string x] w (NumPost (some r) w))) : Calls Tryz.prog 37 #[.string x] w (TxtPost (txt (floQ r)) w) := by
  obtain ⟨y, hy⟩ : ∃ y : ByteArray, Hid (y = ⟨(txt (floQ r)).toArray⟩) := ⟨_, Lib.hid rfl⟩
  have hfl : Hid (∀ W z, RatIs W z r 20 → Calls Tryz.prog 93 #[z] W (IsPost (floQ r) 21 W)) := Lib.hid fun W z hz => floor_is z r 20 W (by omega) hz
  have hput : Hid (∀ W z, Below w.heap.size w W → RatIs W z (floQ r) 21 → Calls Tryz.prog 72 #[z] W fun e w' => e = .returned (.string y) ∧ Below W.heap.size W w') := Lib.hid fun W z hb hz => by rw [hy.out]; exact qtext_is z _ 21 W (by omega) hz (htab.below hb)
  clear htab
  obtain ⟨f, hf⟩ : ∃ f, Hid (f = floQ r) := ⟨_, Lib.hid rfl⟩
  rw [← hf.out] at hput hfl hy ⊢
  unfold TxtPost
  rw [← hy.out]
  go_enter Tryz.func37, Tryz.ntmps37
  go_wp2_with fail
  refine hx.out.mono ?_
  rintro e w2 ⟨hb2, b1, p1, n1, c1, q1, m1, d1, rfl, hr1⟩
  have hbw := Lib.hid (hb2.trans ((below_alloc w2 (.cells #[.bool b1, .slice p1 n1 c1, .slice q1 m1 d1] 69)).mono hb2.size))
  have hR1 := (hr1 _ rfl).below (below_alloc w2 (.cells #[.bool b1, .slice p1 n1 c1, .slice q1 m1 d1] 69))
  have ht := Lib.hid (hfl.out _ _ hR1)
  clear hb2 hr1 hR1
  go_wp2_with fail
  refine ht.out.mono ?_
  rintro e w6 ⟨x6, rfl, hx6, hb6⟩
  have hbw6 := Lib.hid (hbw.out.trans (hb6.mono hbw.out.size))
  have hp := Lib.hid (hput.out _ _ hbw6.out hx6)
  obtain ⟨b2, p2, n2, c2, q2, m2, d2, rfl⟩ := hx6.agg
  clear hb6 hx6
  go_wp2_with fail
  refine hp.out.mono ?_
  rintro e w7 ⟨rfl, hb7⟩
  have hbw7 := Lib.hid (hbw6.out.trans (hb7.mono hbw6.out.size))
  clear hb7
  go_wp2_with fail
  go_ret
  exact ⟨rfl, hbw7.out⟩
theorem pfloor_any (x : ByteArray) (w : World) (htab : Tab w) : Calls Tryz.prog 37 #[.string x] w (TxtPost (floT x.data.toList) w) := by
  have hx := qread_is x w htab
  unfold floT
  cases hnx : num x.data.toList with
  | none => rw [hnx] at hx; exact pfloor_bad x w (Lib.hid hx)
  | some r => rw [hnx] at hx; exact pfloor_ok x r w htab (Lib.hid hx)
end Go.Proofs.YtigicjakloiliaaGreatDoor
namespace Go.Proofs.YtigicjakloiliaaGreatDoor
open Go.RowKit Big
open Go.Lib
theorem Two.rfin {B : Nat} {s : Bool} {u1 v1 : Value} {t : Bool} {u2 v2 : Value} {w0 W : World} (h : Two B s u1 v1 t u2 v2 w0 W) (hB : w0.heap.size ≤ B) {a : Bool} {p q : Option Addr} {n c m d K : Nat} {r : Rat} (hr : RatIs W (.agg #[.bool a, .slice p n c, .slice q m d]) r K) :
    IsPost r K w0 (.returned (.agg #[.bool a, .slice p n c, .slice q m d])) (((W.setCell ⟨B + 1 + 1, 0, none⟩ (.bool a)).setCell ⟨B + 1 + 1, 1, none⟩ (.slice p n c)).setCell ⟨B + 1 + 1, 2, none⟩ (.slice q m d)) := by
  obtain ⟨s', x, y, ⟨u, v, he, hu, hv, hs⟩, h2, h3, h4, h5⟩ := hr
  cases he
  exact ⟨_, rfl, ⟨_, _, _, ⟨_, _, rfl, h.nat3 hB hu _ _ _ _ _ _ _, h.nat3 hB hv _ _ _ _ _ _ _, hs⟩, h2, h3, h4, h5⟩, (h.put3 hB _ _ _ _ _ _ _).below⟩
structure TwoH (B g : Nat) (s : Bool) (u1 v1 : Value) (t : Bool) (u2 v2 : Value) (x0 x1 x2 : Value) (w0 W : World) : Prop where
  two : Two B s u1 v1 t u2 v2 w0 W
  hg : g < w0.heap.size
  hb : w0.heap.size ≤ B
  h : W.heap[g]? = some (.cells #[x0, x1, x2] 69 (0, 0))
section
variable {B g : Nat} {s : Bool} {u1 v1 : Value} {t : Bool} {u2 v2 : Value} {x0 x1 x2 : Value} {w0 W W' : World}
theorem TwoH.next (h : TwoH B g s u1 v1 t u2 v2 x0 x1 x2 w0 W) (hb : Below W.heap.size W W') : TwoH B g s u1 v1 t u2 v2 x0 x1 x2 w0 W' :=
  ⟨h.two.next hb, h.hg, h.hb, (hb.block _ (by have := h.two.size; have := h.hg; have := h.hb; omega)).trans h.h⟩
theorem TwoH.drew (h : TwoH B g s u1 v1 t u2 v2 x0 x1 x2 w0 W) : TwoH B g s u1 v1 t u2 v2 x0 x1 x2 w0 W.drew := ⟨h.two.drew, h.hg, h.hb, h.h⟩
theorem TwoH.below (h : TwoH B g s u1 v1 t u2 v2 x0 x1 x2 w0 W) : Below w0.heap.size w0 W := h.two.below
theorem TwoH.put3 (h : TwoH B g s u1 v1 t u2 v2 x0 x1 x2 w0 W) (a : Bool) (p q : Option Addr) (n c m d : Nat) : TwoH B g s u1 v1 t u2 v2 x0 x1 x2 w0 (((W.setCell ⟨B + 1 + 1, 0, none⟩ (.bool a)).setCell ⟨B + 1 + 1, 1, none⟩ (.slice p n c)).setCell ⟨B + 1 + 1, 2, none⟩ (.slice q m d)) :=
  have hne : g ≠ B + 1 + 1 := by have := h.hg; have := h.hb; omega
  ⟨h.two.put3 h.hb _ _ _ _ _ _ _, h.hg, h.hb, ((Below.heap_setCell _ _ _ _ hne).trans (Below.heap_setCell _ _ _ _ hne)).trans ((Below.heap_setCell _ _ _ _ hne).trans h.h)⟩
theorem TwoH.all (h : TwoH B g s u1 v1 t u2 v2 x0 x1 x2 w0 W) : TwoH B g s u1 v1 t u2 v2 x0 x1 x2 w0 W ∧ W.cell? ⟨B, 0, none⟩ = some (.bool s) ∧ W.cell? ⟨B, 1, none⟩ = some u1 ∧ W.cell? ⟨B, 2, none⟩ = some v1 ∧
    W.cell? ⟨B + 1, 0, none⟩ = some (.bool t) ∧ W.cell? ⟨B + 1, 1, none⟩ = some u2 ∧ W.cell? ⟨B + 1, 2, none⟩ = some v2 ∧ W.cell? ⟨g, 0, none⟩ = some x0 ∧ W.cell? ⟨g, 1, none⟩ = some x1 ∧ W.cell? ⟨g, 2, none⟩ = some x2 :=
  ⟨h, cell_of_heap h.two.x 0, cell_of_heap h.two.x 1, cell_of_heap h.two.x 2, cell_of_heap h.two.y 0, cell_of_heap h.two.y 1, cell_of_heap h.two.y 2, cell_of_heap h.h 0, cell_of_heap h.h 1, cell_of_heap h.h 2⟩
end
theorem round_body (x y : Value) (a b : Rat) (g : Nat) (x0 x1 x2 : Value) (w : World) (hb0 : b ≠ 0) (hx : RatIs w x a 20) (hy : RatIs w y b 20) (hg : g < w.heap.size) (hh : w.heap[g]? = some (.cells #[x0, x1, x2] 69 (0, 0))) (hr : RatIs w (.agg #[x0, x1, x2]) halfQ 2) :
    Calls Tryz.prog 92 #[x, y, .pointer (some ⟨g, 0, none⟩)] w (IsPost (rndQ a b) 164 w) := by
  obtain ⟨f1, hf1⟩ : ∃ f, Hid (f = a / b) := ⟨_, Lib.hid rfl⟩
  obtain ⟨f2, hf2⟩ : ∃ f, Hid (f = f1 + halfQ) := ⟨_, Lib.hid rfl⟩
  obtain ⟨f3, hf3⟩ : ∃ f, Hid (f = floQ f2) := ⟨_, Lib.hid rfl⟩
  obtain ⟨f4, hf4⟩ : ∃ f, Hid (f = f3 * b) := ⟨_, Lib.hid rfl⟩
  have he : rndQ a b = f4 := by rw [hf4.out, hf3.out, hf2.out, hf1.out]; rfl
  rw [he]
  have hq1 : Hid (∀ W, Below w.heap.size w W → Calls Tryz.prog 89 #[x, y] W (IsPost f1 40 W)) := Lib.hid fun W hW => by
    rw [hf1.out]; exact quo_is x y a b 20 W (by omega) hb0 (hx.below hW) (hy.below hW)
  have hq2 : Hid (∀ W u, Below w.heap.size w W → RatIs W u f1 40 → Calls Tryz.prog 86 #[u, .agg #[x0, x1, x2]] W (IsPost f2 81 W)) := Lib.hid fun W u hW hu => by
    rw [hf2.out]; exact add_is u _ f1 halfQ 40 W (by omega) hu ((hr.below hW).more (by omega))
  have hq3 : Hid (∀ W u, RatIs W u f2 81 → Calls Tryz.prog 93 #[u] W (IsPost f3 82 W)) := Lib.hid fun W u hu => by
    rw [hf3.out]; exact floor_is u f2 81 W (by omega) hu
  have hq4 : Hid (∀ W u, Below w.heap.size w W → RatIs W u f3 82 → Calls Tryz.prog 88 #[u, y] W (IsPost f4 164 W)) := Lib.hid fun W u hW hu => by
    rw [hf4.out]; exact mul_is u y f3 b 82 W (by omega) hu ((hy.below hW).more (by omega))
  obtain ⟨y0, e0, e1, e2, e3, e4, e5, he0⟩ := hr.agg
  cases he0
  obtain ⟨s, p1, n1, c1, p2, n2, c2, rfl⟩ := hx.agg
  obtain ⟨t, p3, n3, c3, p4, n4, c4, rfl⟩ := hy.agg
  have htwo : TwoH w.heap.size g s (.slice p1 n1 c1) (.slice p2 n2 c2) t (.slice p3 n3 c3) (.slice p4 n4 c4) (.bool y0) (.slice e0 e1 e2) (.slice e3 e4 e5) w _ :=
    ⟨Two.start w s (.slice p1 n1 c1) (.slice p2 n2 c2) t (.slice p3 n3 c3) (.slice p4 n4 c4), hg, Nat.le_refl _, ((Two.start w s (.slice p1 n1 c1) (.slice p2 n2 c2) t (.slice p3 n3 c3) (.slice p4 n4 c4)).below.block _ hg).trans hh⟩
  have Htwo := Lib.hid htwo
  obtain ⟨-, k0, k1, k2, k3, k4, k5, k6, k7, k8⟩ := htwo.all
  clear htwo hx hy hr hg hh he
  go_enter Tryz.func92, Tryz.ntmps92
  go_wp2_with fail
  go_region_held3 (fun w' => TwoH w.heap.size g s (.slice p1 n1 c1) (.slice p2 n2 c2) t (.slice p3 n3 c3) (.slice p4 n4 c4) (.bool y0) (.slice e0 e1 e2) (.slice e3 e4 e5) w w' ∧ w'.cell? ⟨w.heap.size, 0, none⟩ = some (.bool s) ∧ w'.cell? ⟨w.heap.size, 1, none⟩ = some (.slice p1 n1 c1) ∧ w'.cell? ⟨w.heap.size, 2, none⟩ = some (.slice p2 n2 c2) ∧ w'.cell? ⟨w.heap.size + 1, 0, none⟩ = some (.bool t) ∧ w'.cell? ⟨w.heap.size + 1, 1, none⟩ = some (.slice p3 n3 c3) ∧ w'.cell? ⟨w.heap.size + 1, 2, none⟩ = some (.slice p4 n4 c4) ∧ w'.cell? ⟨g, 0, none⟩ = some (.bool y0) ∧ w'.cell? ⟨g, 1, none⟩ = some (.slice e0 e1 e2) ∧ w'.cell? ⟨g, 2, none⟩ = some (.slice e3 e4 e5))
    (first | exact TwoH.all (TwoH.drew Htwo.out) | exact TwoH.all Htwo.out | (go_split_ands; exact TwoH.all (TwoH.next (by assumption) hb1)) | (go_split_ands; exact TwoH.all (TwoH.next (by assumption) hb2)) | (go_split_ands; exact TwoH.all (TwoH.next (by assumption) hb3)) | (go_split_ands; exact TwoH.all (TwoH.next (by assumption) hb4)) | (go_split_ands; exact TwoH.all (TwoH.put3 (by assumption) _ _ _ _ _ _ _)) | go_keep)
    (first | (go_at_call 89; go_split_ands; refine (hq1.out _ (TwoH.below (by assumption))).mono ?_; rintro e w1 ⟨z1, rfl, hz1, hb1⟩; obtain ⟨m0, m1, m2, m3, m4, m5, m6, rfl⟩ := hz1.agg) | (go_at_call 86; go_split_ands; refine (hq2.out _ _ (TwoH.below (by assumption)) hz1).mono ?_; rintro e w2 ⟨z2, rfl, hz2, hb2⟩; obtain ⟨a0, a1, a2, a3, a4, a5, a6, rfl⟩ := hz2.agg) | (go_at_call 93; go_split_ands; refine (hq3.out _ _ hz2).mono ?_; rintro e w3 ⟨z3, rfl, hz3, hb3⟩; obtain ⟨d0, d1, d2, d3, d4, d5, d6, rfl⟩ := hz3.agg) | (go_at_call 88; go_split_ands; refine (hq4.out _ _ (TwoH.below (by assumption)) hz3).mono ?_; rintro e w4 ⟨z4, rfl, hz4, hb4⟩; obtain ⟨r0, r1, r2, r3, r4, r5, r6, rfl⟩ := hz4.agg; have htw := TwoH.next (by assumption) hb4; obtain ⟨j0, j1, j2, l0, l1, l2, g0, g1, g2⟩ := Two.slots htw.two))
  go_wp2_with fail
  have hfin := Lib.hid (htw.two.rfin (Nat.le_refl _) hz4)
  refine bodyPost_ret (v := .agg #[.bool r0, .slice r1 r2 r3, .slice r4 r5 r6]) (by simp [results, Tryz.results92, go_sem, l0, l1, l2]) rfl ?_
  exact hfin.out
end Go.Proofs.YtigicjakloiliaaGreatDoor
